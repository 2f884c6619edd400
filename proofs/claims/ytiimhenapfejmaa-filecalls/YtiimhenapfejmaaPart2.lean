/-
  Parts of the proof, one behind the other; what each proves stands at its head.
-/
import Derived.Test.YtiimhenapfejmaaPart1
import Derived.Lib.SlBytesConst
import Derived.Deep.Matrix
import Derived.SizedLaws
import Derived.Deep.SlicePairs
import Derived.Deep.Strs
import Derived.Laws.AppendOwnNone
import Derived.Deep.RegionLaw
import Derived.Deep.QuietTactic
import Derived.BigQuiet
import Derived.RegionTactic

/-
  That alive answers true is proved here.
-/
namespace Go.Proofs.Ytiimhenapfejmaa
open Go.RowKit
set_option linter.unusedVariables false
set_option maxRecDepth 100000

theorem World.grownBy.below' {w w' : World} {m : Nat} (h : (w.drewN m).grownBy w' none) : Below w.heap.size w w' := ⟨h.os, h.tape, h.output, h.size, fun k hk => h.block k hk (by simp)⟩
/-- A row of bytes that is a block by itself. -/
theorem Bs.blk {w : World} {b e : Nat} {fr : Nat × Nat} (xs : List Int) (h : w.heap[b]? = some (.cells (cs xs).toArray e fr)) (hl : xs.length ≤ maxLen) (hr : ∀ x ∈ xs, 0 ≤ x ∧ x < 256) :
    Bs w (.slice (some ⟨b, 0, none⟩) xs.length xs.length) xs := by
  refine ⟨_, _, rfl, Nat.le_refl _, hl, (fun e => by cases e), fun i hi => ⟨b, 0, rfl, ?_⟩, hr⟩
  rw [Nat.zero_add, cell_of_row w b i _ e fr h]
  simp [hi]

set_option maxHeartbeats 2000000 in
theorem alive_any (w : World) : Calls Try.prog 7 #[] w fun e w' => e = .returned (.bool true) ∧ Below w.heap.size w w' := by
  have r1 : appS 9 [97, 98] [] 0 = (0, [97, 98], 0) := by decide
  have r2 : appS 9 [99, 100] [97, 98] 2 = (0, [97, 98, 99, 100], 2) := by decide
  have r3 : crashS 1 [97, 98, 99, 100] 2 = (0, [97, 98, 99], 3) := by decide
  have r4 : appS 9 [0, 0, 0, 0, 0, 0, 0] [97, 98, 99] 3 = (14, [97, 98, 99], 3) := by decide
  have R1 := hid r1
  have R2 := hid r2
  have R3 := hid r3
  have R4 := hid r4
  clear r1 r2 r3 r4
  have kc := fun (w : World) (C : Array Value) (n c : Nat) => Lib.run_convert_bytes_const (P := Try.prog) w 32 5 C n c Try.underlying32 Try.underlying5
  go_enter Try.func7, Try.ntmps7
  go_wp2_with fail
  refine (new_ok 9 (by decide)).mono ?_
  rintro e w1 ⟨rfl, b1, v1, hf1⟩
  obtain ⟨b, hb⟩ : ∃ b, w.heap.size = b := ⟨_, rfl⟩
  have HB := hid hb
  rw [hb] at b1 hf1 ⊢
  have HB1 := hid b1
  have HF1 := hid hf1
  have HL1 := hf1.lt
  clear b1 hf1 hb
  go_wp2_with fail
  refine (fappend_any (ys := [97, 98]) (by simp; omega) (HF1.out.below (ba w1 _)) _ (Bs.blk (e := 5) (fr := (2, 3)) [97, 98] (heap_alloc_new w1 _) (by decide) (by decide))).mono ?_
  rintro e w2 ⟨he, hf⟩
  obtain rfl := he.out R1.out
  obtain ⟨v2, hf2, hx2⟩ := hf.out R1.out
  have hl2 := hx2.size
  have hs2 : b < w2.heap.size := hf2.lt
  have HB2 := hid ((HB1.out.trans ((ba w1 _).mono (by omega))).trans ((HF1.out.below (ba w1 _)).fr hx2 (by simp; omega)))
  have HF2 := hid hf2
  clear he hf hf2 hx2 hl2
  go_wp2_with fail
  refine (sync_any HF2.out).mono ?_
  rintro e w3 ⟨rfl, hf3, hx3⟩
  have hs3 : b < w3.heap.size := hf3.lt
  have HB3 := hid (HB2.out.trans (HF2.out.fr hx3 (by omega)))
  have HF3 := hid hf3
  clear hf3 hx3
  go_wp2_with fail
  refine (fappend_any (ys := [99, 100]) (by simp; omega) (HF3.out.below (ba w3 _)) _ (Bs.blk (e := 5) (fr := (2, 3)) [99, 100] (heap_alloc_new w3 _) (by decide) (by decide))).mono ?_
  rintro e w4 ⟨he, hf⟩
  obtain rfl := he.out R2.out
  obtain ⟨v4, hf4, hx4⟩ := hf.out R2.out
  have hs4 : b < w4.heap.size := hf4.lt
  have HB4 := hid ((HB3.out.trans ((ba w3 _).mono (by omega))).trans ((HF3.out.below (ba w3 _)).fr hx4 (by simp; omega)))
  have HF4 := hid hf4
  clear he hf hf4 hx4
  go_wp2_with fail
  refine (fcrash_any HF4.out (by decide) 1).mono ?_
  rintro e w5 ⟨rfl, hf⟩
  obtain ⟨v5, hf5, hx5⟩ := hf.out R3.out
  have hs5 : b < w5.heap.size := hf5.lt
  have HB5 := hid (HB4.out.trans (HF4.out.fr hx5 (by omega)))
  have HF5 := hid hf5
  clear hf hf5 hx5
  go_wp2_with fail
  refine (bytes_any HF5.out).mono ?_
  rintro e w6 ⟨v6, rfl, ho, hb6⟩
  have hcv := conv_str (ho.bs HF5.out.byt)
  obtain ⟨a6, c6, rfl, -⟩ := ho.form
  have hm : M.str [97, 98, 99] = ⟨#[97, 98, 99]⟩ := by decide
  rw [hm, show [(97 : Int), 98, 99].length = 3 from rfl] at hcv
  rw [show [(97 : Int), 98, 99].length = 3 from rfl] at ho ⊢
  have HB6 := hid (HB5.out.trans (hb6.mono (by omega)))
  have HF6 := hid (HF5.out.below hb6)
  have hs6 : b < w6.heap.size := HF6.out.lt
  clear ho hb6 hm
  go_wp2_with fail
  refine (synced_any HF6.out).mono ?_
  rintro e w7 ⟨rfl, rfl⟩
  go_wp2_with fail
  refine (room_any HF6.out).mono ?_
  rintro e w7 ⟨rfl, m, rfl⟩
  obtain ⟨i0, hi, hz0, hz1, hz2⟩ := info_parts info_u8
  obtain ⟨w7, hrun, hown, hgrow⟩ := run_make_full (P := Try.prog) (w6.drewN m) (w6.drewN m).heap.size 32 5 i0 (.int .u8 0) 1 Try.underlying32 hi hz0 hz1 .i64 .i64 7 (by rw [hz2]; decide) (by decide) (Nat.le_refl _)
  have ho7 : Ow (w6.drewN m).heap.size w7 (.slice (some ⟨w6.heap.size, 0, none⟩) 7 7) [0, 0, 0, 0, 0, 0, 0] := by
    have hm : (madeCells (Value.int .u8 0).cells (7 * 1)).toList = cs [0, 0, 0, 0, 0, 0, 0] := by kernel_rfl
    rw [hm] at hown
    exact hown
  have hb7 : Below w6.heap.size w6 w7 := World.grownBy.below' hgrow
  have HO7 := hid ho7
  have HB7 := hid hb7
  have hs7 : w6.heap.size ≤ w7.heap.size := hb7.size
  clear hown hgrow ho7 hb7 hz0 hz1 hz2 hi
  rw [show ((7 : Nat) : Int) = 7 from rfl] at hrun
  go_wp2_with fail
  refine (fappend_any (ys := [0, 0, 0, 0, 0, 0, 0]) (by omega) (HF6.out.below HB7.out) _ (HO7.out.bs (fun x hx => by simp at hx; omega))).mono ?_
  rintro e w8 ⟨he, hf⟩
  obtain rfl := he.out R4.out
  obtain ⟨v8, hf8, hx8⟩ := hf.out R4.out
  have HB8 := hid ((HB6.out.trans (HB7.out.mono (by omega))).trans ((HF6.out.below HB7.out).fr hx8 (by omega)))
  clear he hf hf8 hx8
  go_wp2
  go_ret
  exact ⟨rfl, by rw [HB.out]; exact HB8.out⟩
end Go.Proofs.Ytiimhenapfejmaa

/-
  Rows of bytes in memory: 'Ls w v xss': the slice v reads as the lists of bytes xss; rows that came in, rows that a call made.
-/
namespace Go.Proofs.Ytiimhenapfejmaa
open Go.RowKit
set_option linter.unusedVariables false
set_option maxRecDepth 100000

def Ls (w : World) (v : Value) (xss : List (List Int)) : Prop :=
  ∃ a c, v = .slice a xss.length c ∧ xss.length ≤ c ∧ c ≤ maxLen ∧ (a = none → c = 0) ∧
    ∀ i, i < xss.length → ∃ b off u, a = some ⟨b, off, none⟩ ∧ w.cell? ⟨b, off + i, none⟩ = some u ∧ Bs w u (xss.getD i [])

theorem Ls.nil (w : World) : Ls w (.slice none 0 0) [] := ⟨none, 0, rfl, Nat.le_refl _, Nat.zero_le _, fun _ => rfl, fun i hi => absurd hi (Nat.not_lt_zero _)⟩
theorem Ls.form {w : World} {v : Value} {xs : List (List Int)} (h : Ls w v xs) : ∃ a c, v = .slice a xs.length c := by
  obtain ⟨a, c, e, _⟩ := h
  exact ⟨a, c, e⟩
theorem Ls.len {w : World} {v : Value} {xss : List (List Int)} (h : Ls w v xss) : xss.length ≤ maxLen := by
  obtain ⟨a, c, _, h2, h3, _⟩ := h
  exact Nat.le_trans h2 h3
theorem Ls.below {w w' : World} {v : Value} {xss : List (List Int)} (h : Ls w v xss) (hb : Below w.heap.size w w') : Ls w' v xss := by
  obtain ⟨a, c, h1, h2, h3, h4, h5⟩ := h
  refine ⟨a, c, h1, h2, h3, h4, fun i hi => ?_⟩
  obtain ⟨b, off, u, e1, e2, e3⟩ := h5 i hi
  exact ⟨b, off, u, e1, by rw [hb.cell (World.block_lt_of_cell? _ _ e2)]; exact e2, e3.below hb⟩
theorem Ls.drewN {w : World} {v : Value} {xss : List (List Int)} (h : Ls w v xss) (n : Nat) : Ls (w.drewN n) v xss := h
theorem Ls.inv_nil {w : World} {v : Value} (h : Ls w v []) : ∃ a c, v = .slice a 0 c ∧ c ≤ maxLen ∧ (a = none → c = 0) := by
  obtain ⟨a, c, h1, _, h3, h4, _⟩ := h
  exact ⟨a, c, h1, h3, h4⟩
theorem Ls.inv {w : World} {v : Value} {xss : List (List Int)} (h : Ls w v xss) (hx : 0 < xss.length) :
    ∃ b off c, v = .slice (some ⟨b, off, none⟩) xss.length c ∧ xss.length ≤ c ∧ c ≤ maxLen ∧ ∀ i, i < xss.length → ∃ u, w.cell? ⟨b, off + i, none⟩ = some u ∧ Bs w u (xss.getD i []) := by
  obtain ⟨a, c, h1, h2, h3, _, h5⟩ := h
  obtain ⟨b, off, u, e1, _⟩ := h5 0 hx
  refine ⟨b, off, c, by rw [h1, e1], h2, h3, fun i hi => ?_⟩
  obtain ⟨b', off', u', e2, e3, e4⟩ := h5 i hi
  rw [e1] at e2
  simp only [Option.some.injEq, Addr.mk.injEq, and_true] at e2
  obtain ⟨rfl, rfl⟩ := e2
  exact ⟨u', e3, e4⟩
theorem Ls.take {w : World} {a : Option Addr} {xss : List (List Int)} {n c : Nat} (h : Ls w (.slice a n c) xss) (l : Nat) (hl : l ≤ n) : Ls w (.slice a l c) (xss.take l) := by
  obtain ⟨a', c', h1, h2, h3, h4, h5⟩ := h
  simp only [Value.slice.injEq] at h1
  obtain ⟨rfl, rfl, rfl⟩ := h1
  have hlen : (xss.take l).length = l := by rw [List.length_take]; omega
  refine ⟨a, c, by rw [hlen], by omega, h3, h4, fun i hi => ?_⟩
  obtain ⟨b, off, u, e1, e2, e3⟩ := h5 i (by omega)
  refine ⟨b, off, u, e1, e2, ?_⟩
  rw [show (xss.take l).getD i [] = xss.getD i [] by simp [List.getD, show i < l by omega]]
  exact e3
theorem Ls.bytes {w : World} {v : Value} {xss : List (List Int)} (h : Ls w v xss) : ∀ l ∈ xss, ∀ x ∈ l, 0 ≤ x ∧ x < 256 := by
  intro l hl
  obtain ⟨i, hi, rfl⟩ := List.getElem_of_mem hl
  obtain ⟨a, c, _, _, _, _, h5⟩ := h
  obtain ⟨b, off, u, _, _, e3⟩ := h5 i hi
  have := e3.range
  simpa [List.getD, hi] using this

theorem weights_all_mem {H : Type} {P : Program} {e : TypeId} : ∀ {l : List (DataW H)} {d : DataW H}, d ∈ l → ∀ n ∈ d.weights P e, n ∈ DataW.weightsAll P e l
  | d0 :: r, d, h, n, hn => by
    simp only [DataW.weightsAll, List.mem_append]
    rcases List.mem_cons.1 h with rfl | h
    · exact Or.inl hn
    · exact Or.inr (weights_all_mem h n hn)

theorem cells_u8s : Try.prog.cellsOf 32 = 1 := by kernel_rfl
theorem cells_u8 : Try.prog.cellsOf 5 = 1 := by kernel_rfl
theorem bytes_u8 : Try.prog.bytesOf 5 = 1 := by kernel_rfl

/-- Rows of bytes that came in; each takes less than 2^47 bytes. -/
theorem Ls.open {H : Type} {enc : TypeId × Value → H} {W : World} {a : Option Addr} {len cap : Nat} {d : DataW H} {p : List MemPlace}
    (h : DataW.Trod enc Try.prog W 0 (fun _ => true) true 50 (.slice a len cap) d p) (hz : ∀ n ∈ d.weights Try.prog 50, n ≤ reachBytes) : ∃ xss, Ls W (.slice a len cap) xss ∧ ∀ l ∈ xss, l.length ≤ 140737488355328 := by
  obtain ⟨fuel, hf⟩ := h
  rcases Go.Deep.open_int_rows Try.underlying50 Try.underlying32 Try.underlying5 cells_u8s cells_u8 hf with ⟨hcs, _⟩ | ⟨x, l, c, A, L, C, Z, hcs, _, hl, hm, hd, hx⟩
  · simp [Value.cells] at hcs
    obtain ⟨rfl, rfl, rfl⟩ := hcs
    exact ⟨[], Ls.nil W, fun l hl => by cases hl⟩
  · simp [Value.cells] at hcs
    obtain ⟨rfl, rfl, rfl⟩ := hcs
    simp only [Prod.mk.injEq] at hd
    refine ⟨(List.range len).map fun r => (Z r).take (L r), ⟨some x, cap, by simp, by simpa using hl, hm, (fun e => by cases e), fun i hi => ?_⟩, fun l hl' => ?_⟩
    · simp at hi
      obtain ⟨g0, g1, g2, g3, g4, g5, g6⟩ := hx i (by omega)
      obtain ⟨z0, _⟩ := hx 0 (by omega)
      obtain ⟨b, off, spot⟩ := x
      have hs : spot = none := by simpa [Addr.add] using World.cell?_spot z0
      subst hs
      rw [Addr.add_lit] at g0
      refine ⟨b, off, _, rfl, g0, ?_⟩
      rw [show ((List.range len).map fun r => (Z r).take (L r)).getD i [] = (Z i).take (L i) by simp [List.getD, hi]]
      cases hA : A i with
      | none =>
        have h0 := g5 hA
        have hL0 : L i = 0 := by omega
        rw [hL0, h0, List.take_zero]
        exact Bs.nil W
      | some a' =>
        exact Bs.of_row g1 g2 g3 (fun j hj => (g6 a' hA).2 j (by rw [g3] at hj; exact hj)) g4
    · obtain ⟨r, hr, rfl⟩ := List.mem_map.1 hl'
      have hr' : r < len := List.mem_range.1 hr
      obtain ⟨g0, g1, g2, g3, g4, g5, g6⟩ := hx r (by omega)
      show ((Z r).take (L r)).length ≤ _
      rw [List.length_take]
      cases hA : A r with
      | none =>
        have h0 := g5 hA
        omega
      | some a' =>
        have hmem : (Go.Deep.intRow .u8 (A r) (L r) (Z r) : DataW H) ∈ (List.range len).map fun r => Go.Deep.intRow .u8 (A r) (L r) (Z r) := List.mem_map.2 ⟨r, hr, rfl⟩
        have hw : (Z r).length * 1 ∈ (Go.Deep.intRow .u8 (A r) (L r) (Z r) : DataW H).weights Try.prog 32 := by
          rw [hA]
          simp only [Go.Deep.intRow, DataW.weights, Try.underlying32]
          rw [bytes_u8]
          refine List.mem_cons.2 (Or.inl ?_)
          congr 1
          simp [Go.ChangeShapes.lits]
          omega
        have hle := hz _ (by
          rw [hd.1]
          simp only [DataW.weights, Try.underlying50]
          refine List.mem_cons.2 (Or.inr (List.mem_append.2 (Or.inl (weights_all_mem hmem _ hw)))))
        have : reachBytes < 2 ^ 47 := reachBytes_lt
        omega

end Go.Proofs.Ytiimhenapfejmaa

/-
  A list of calls in memory (two numbers and bytes): 'Dl w v qs': the slice v reads as qs; what great and do return, for all calls and files.
-/
namespace Go.Proofs.Ytiimhenapfejmaa
open Go.RowKit Go.ChangeShapes Go.WideShapes
set_option linter.unusedVariables false
set_option maxRecDepth 100000

abbrev Cal := Int × Int × List Int
def cal0 : Cal := (0, 0, [])

def Dl (w : World) (v : Value) (qs : List Cal) : Prop :=
  ∃ a c, v = .slice a qs.length c ∧ qs.length ≤ c ∧ c ≤ maxLen ∧
    ∀ i, i < qs.length → ∃ b off u, a = some ⟨b, off, none⟩ ∧ w.cell? ⟨b, off + i * 3, none⟩ = some (.int .i64 (qs.getD i cal0).1) ∧ w.cell? ⟨b, off + i * 3 + 1, none⟩ = some (.int .i64 (qs.getD i cal0).2.1) ∧
      w.cell? ⟨b, off + i * 3 + 2, none⟩ = some u ∧ Bs w u (qs.getD i cal0).2.2
theorem Dl.below {w w' : World} {v : Value} {qs : List Cal} (h : Dl w v qs) (hb : Below w.heap.size w w') : Dl w' v qs := by
  obtain ⟨a, c, h1, h2, h3, h4⟩ := h
  refine ⟨a, c, h1, h2, h3, fun i hi => ?_⟩
  obtain ⟨b, off, u, e1, e2, e3, e4, e5⟩ := h4 i hi
  exact ⟨b, off, u, e1, by rw [hb.cell (World.block_lt_of_cell? _ _ e2)]; exact e2, by rw [hb.cell (World.block_lt_of_cell? _ _ e3)]; exact e3, by rw [hb.cell (World.block_lt_of_cell? _ _ e4)]; exact e4, e5.below hb⟩
theorem Dl.nil (w : World) : Dl w (.slice none 0 0) [] := ⟨none, 0, rfl, Nat.le_refl _, Nat.zero_le _, fun i hi => absurd hi (Nat.not_lt_zero _)⟩
theorem Dl.len {w : World} {v : Value} {qs : List Cal} (h : Dl w v qs) : qs.length ≤ maxLen := by
  obtain ⟨a, c, _, h2, h3, _⟩ := h
  exact Nat.le_trans h2 h3
theorem Dl.form {w : World} {v : Value} {qs : List Cal} (h : Dl w v qs) : ∃ a c, v = .slice a qs.length c := by
  obtain ⟨a, c, e, _⟩ := h
  exact ⟨a, c, e⟩
theorem Dl.inv {w : World} {v : Value} {qs : List Cal} (h : Dl w v qs) (hx : 0 < qs.length) :
    ∃ b off c, v = .slice (some ⟨b, off, none⟩) qs.length c ∧ ∀ i, i < qs.length → ∃ u, w.cell? ⟨b, off + i * 3, none⟩ = some (.int .i64 (qs.getD i cal0).1) ∧ w.cell? ⟨b, off + i * 3 + 1, none⟩ = some (.int .i64 (qs.getD i cal0).2.1) ∧
      w.cell? ⟨b, off + i * 3 + 2, none⟩ = some u ∧ Bs w u (qs.getD i cal0).2.2 := by
  obtain ⟨a, c, h1, h2, h3, h5⟩ := h
  obtain ⟨b, off, u, e1, _⟩ := h5 0 hx
  refine ⟨b, off, c, by rw [h1, e1], fun i hi => ?_⟩
  obtain ⟨b', off', u', e2, e3⟩ := h5 i hi
  rw [e1] at e2
  simp only [Option.some.injEq, Addr.mk.injEq, and_true] at e2
  obtain ⟨rfl, rfl⟩ := e2
  exact ⟨u', e3⟩

theorem cells_call : Try.prog.cellsOf 34 = 3 := by kernel_rfl
theorem cells_int : Try.prog.cellsOf 3 = 1 := by kernel_rfl

theorem list3 {α : Type} {l : List α} (h : l.length = 3) : ∃ a b c, l = [a, b, c] := by
  match l, h with
  | [a, b, c], _ => exact ⟨a, b, c, rfl⟩

section
variable {H : Type} {enc : TypeId × Value → H} {W : World} {held : Bool}
/-- Bytes that came in, and what they weigh. -/
theorem trod_u8s {n : Nat} {v : Value} {d : DataW H} {p : List MemPlace} (h : DataW.trod enc Try.prog W 0 (fun _ => true) held n 32 [v] = some (d, p)) : ∃ l, Bs W v l ∧ ((∀ m ∈ d.weights Try.prog 32, m ≤ reachBytes) → l.length ≤ 140737488355328) := by
  rcases open_ints Try.underlying32 Try.underlying5 cells_u8 h with ⟨hcs, _⟩ | ⟨x, l, c, zs, hcs, _, hl, hm, hz, hd, hcell, hwz⟩
  · simp at hcs
    subst hcs
    exact ⟨[], Bs.nil W, fun _ => Nat.zero_le _⟩
  · simp at hcs
    subst hcs
    refine ⟨zs.take l, Bs.of_row hl hm (by simpa using hz) hcell hwz, fun hw => ?_⟩
    simp only [Prod.mk.injEq] at hd
    rw [hd.1] at hw
    simp only [DataW.weights, Try.underlying32, bytes_u8] at hw
    have := hw _ (List.mem_cons_self ..)
    have hr : reachBytes < 2 ^ 47 := reachBytes_lt
    rw [List.length_take]
    simp [lits] at this
    omega
theorem trod_call {n : Nat} {cs : List Value} {d : DataW H} {p : List MemPlace} (h : DataW.trod enc Try.prog W 0 (fun _ => true) held n 34 cs = some (d, p)) :
    ∃ (q : Cal) (u : Value), cs = [.int .i64 q.1, .int .i64 q.2.1, u] ∧ Bs W u q.2.2 ∧ ((∀ m ∈ d.weights Try.prog 34, m ≤ reachBytes) → q.2.2.length ≤ 140737488355328) := by
  obtain ⟨y0, y1, y2, k, hx, hl, g0, g1, g2⟩ := Go.Deep.trod_struct3 Try.underlying34 h
  rw [cells_call] at hl
  obtain ⟨v0, v1, v2, rfl⟩ := list3 hl
  simp [cells_int, cells_u8s] at g0 g1 g2
  obtain ⟨a, e0, _⟩ := DataW.trod_int Try.underlying3 g0
  obtain ⟨b, e1, _⟩ := DataW.trod_int Try.underlying3 g1
  simp at e0 e1
  subst e0; subst e1
  obtain ⟨l, hl2, hw⟩ := trod_u8s (d := y2.1) (p := y2.2) g2
  refine ⟨(a, b, l), v2, rfl, hl2, fun hm => hw (fun m hm2 => hm m ?_)⟩
  simp only [Prod.mk.injEq] at hx
  rw [hx.1]
  simp only [DataW.weights, Try.underlying34]
  exact DataW.weights_mem_each (j := 2) rfl rfl m hm2
end

/-- A list of calls that came in; the bytes of each are at most 2^47. -/
theorem Dl.open {H : Type} {enc : TypeId × Value → H} {W : World} {a : Option Addr} {len cap : Nat} {d : DataW H} {p : List MemPlace}
    (h : DataW.Trod enc Try.prog W 0 (fun _ => true) true 22 (.slice a len cap) d p) (hz : ∀ n ∈ d.weights Try.prog 22, n ≤ reachBytes) : ∃ qs, Dl W (.slice a len cap) qs ∧ ∀ q ∈ qs, q.2.2.length ≤ 140737488355328 := by
  obtain ⟨fuel, hf⟩ := h
  rcases Go.Deep.open_slice Try.underlying22 hf with ⟨hcs, _⟩ | ⟨x, l, c, m, n, D, Pl, hcs, _, hl, hm, hmm, hd, hx⟩
  · simp [Value.cells] at hcs
    obtain ⟨rfl, rfl, rfl⟩ := hcs
    exact ⟨[], Dl.nil W, fun q hq => by cases hq⟩
  · simp [Value.cells] at hcs
    obtain ⟨rfl, rfl, rfl⟩ := hcs
    simp at hmm
    subst hmm
    simp only [Prod.mk.injEq] at hd
    rw [cells_call] at hx
    have each : ∀ i, i < len → ∃ q : Cal × Value, W.cells? 0 (x.add (i * 3)) 3 = some [.int .i64 q.1.1, .int .i64 q.1.2.1, q.2] ∧ Bs W q.2 q.1.2.2 ∧ q.1.2.2.length ≤ 140737488355328 := fun i hi => by
      obtain ⟨cs', h1, h2⟩ := hx i (by omega)
      obtain ⟨q, u, rfl, h3, h4⟩ := trod_call h2
      refine ⟨(q, u), h1, h3, h4 (fun k hk => hz k ?_)⟩
      rw [hd.1]
      simp only [DataW.weights, Try.underlying22]
      exact List.mem_cons.2 (Or.inr (List.mem_append.2 (Or.inl (weights_all_mem (List.mem_map.2 ⟨i, List.mem_range.2 hi, rfl⟩) _ hk))))
    have hinh : Inhabited (Cal × Value) := ⟨(cal0, .slice none 0 0)⟩
    obtain ⟨q, hq⟩ := Go.Deep.choose_lt each
    refine ⟨(List.range len).map (fun i => (q i).1), ⟨some x, _, by simp, by simpa using hl, hm, fun i hi => ?_⟩, fun r hr => ?_⟩
    · simp at hi
      obtain ⟨g0, g1, _⟩ := hq i hi
      obtain ⟨_, _, hcell⟩ := World.cells?_some g0
      have c0 := hcell 0 (by decide)
      have c1 := hcell 1 (by decide)
      have c2 := hcell 2 (by decide)
      rw [Go.Deep.add_add] at c0 c1 c2
      obtain ⟨b, off, spot⟩ := x
      have hs : spot = none := by
        obtain ⟨_, _, hcell0⟩ := World.cells?_some (hq 0 (by omega)).1
        simpa [Addr.add] using World.cell?_spot (hcell0 0 (by decide))
      subst hs
      rw [Addr.add_lit] at c0 c1 c2
      have hg : ((List.range len).map (fun i => (q i).1)).getD i cal0 = (q i).1 := by simp [List.getD, hi]
      rw [hg]
      refine ⟨b, off, (q i).2, rfl, c0, ?_, ?_, g1⟩
      · rw [Nat.add_assoc]; exact c1
      · rw [Nat.add_assoc]; exact c2
    · obtain ⟨i, hi, rfl⟩ := List.mem_map.1 hr
      exact (hq i (List.mem_range.1 hi)).2.2

/-- A bool is returned. -/
def Bo (e : Ending) : Prop := ∃ r : Bool, e = .returned (.bool r)

set_option maxHeartbeats 1000000 in
theorem great_any (a : Value) (qs : List Cal) (w : World) (h : Dl w a qs) (hx : ∀ q ∈ qs, q.2.2.length ≤ 140737488355328) :
    Calls Try.prog 8 #[a] w fun e w' => Bo e ∧ w = w' := by
  have l1 := h.len
  unfold maxLen at l1
  by_cases hz : qs.length = 0
  · have e1 : qs = [] := List.eq_nil_of_length_eq_zero hz
    subst e1
    obtain ⟨a1, c1, rfl⟩ := h.form
    clear h l1 hz hx
    go_enter Try.func8, Try.ntmps8
    go_wp2
    refine wp_loop_rounds 1 ?_
    rw [rounds_succ]
    go_wp2
    go_ret
    exact ⟨⟨false, rfl⟩, rfl⟩
  · obtain ⟨b, off, c, rfl, hc⟩ := h.inv (by omega)
    obtain ⟨n, hn⟩ : ∃ n, qs.length = n := ⟨_, rfl⟩
    have HN := hid hn
    have HC := hid hc
    have HX := hid hx
    rw [hn] at l1 hz ⊢
    clear h hc hx hn
    by_cases hb : (100 : Int) < n
    · go_enter Try.func8, Try.ntmps8
      go_wp2
      go_ret
      exact ⟨⟨true, rfl⟩, rfl⟩
    · go_enter Try.func8, Try.ntmps8
      go_wp2
      go_loop [3, 4] (fun s i => ∃ k m : Nat, k ≤ n ∧ i = .int .i64 k ∧ s = .int .i64 m ∧ m ≤ 20000) (fun _ i => n - (intOf i).toNat)
      case atStart => exact ⟨0, 0, Nat.zero_le _, rfl, rfl, Nat.zero_le _⟩
      case round =>
        obtain ⟨k, m, hk, rfl, rfl, hs⟩ := hrel
        by_cases hlt : k < n
        · have hlt' : (k : Int) < (n : Int) := by omega
          obtain ⟨u, -, -, g2, g3⟩ := HC.out k (by rw [HN.out]; exact hlt)
          obtain ⟨a1, d1, rfl⟩ := g3.form
          have hlm : (qs.getD k cal0).2.2.length ≤ 140737488355328 := by
            have hk' : k < qs.length := by rw [HN.out]; exact hlt
            rw [List.getD_eq_getElem?_getD, List.getElem?_eq_getElem hk', Option.getD_some]
            exact HX.out _ (List.getElem_mem hk')
          obtain ⟨j, hj⟩ : ∃ j, (qs.getD k cal0).2.2.length = j := ⟨_, rfl⟩
          rw [hj] at hlm g2
          clear hj g3
          by_cases hg : (20000 : Int) < (m : Int) + j
          · go_wp2
            go_ret
            exact ⟨⟨true, rfl⟩, rfl⟩
          · go_wp2
            go_round
            case rel => exact ⟨k + 1, m + j, by omega, by go_num, by go_num, by omega⟩
            case measure => simp [intOf]; omega
        · go_wp2
          go_ret
          exact ⟨⟨false, rfl⟩, rfl⟩

end Go.Proofs.Ytiimhenapfejmaa

/-
  What do does to a file is proved here, for all files and calls.
-/
namespace Go.Proofs.Ytiimhenapfejmaa
open Go.RowKit
set_option linter.unusedVariables false
set_option maxRecDepth 100000

/-- What a call answers and leaves. -/
def doS (R : Nat) (q : Cal) (xs : List Int) (n : Nat) : Int × List Int × Nat :=
  if q.1 = 0 then appS R q.2.2 xs n else if q.1 = 1 then (0, xs, xs.length) else if q.1 = 2 then repS R q.2.2 xs n else if q.1 = 3 then trimS q.2.1 xs n else if q.1 = 4 then crashS q.2.1 xs n else (0, xs, n)
theorem left_le (k : Int) (xs : List Int) (n : Nat) (h : n ≤ xs.length) : left k xs n ≤ xs.length := by unfold left; omega
theorem doS_ok (R : Nat) (q : Cal) (xs : List Int) (n : Nat) (h : n ≤ xs.length) : (doS R q xs n).2.2 ≤ (doS R q xs n).2.1.length := by
  unfold doS
  split
  · unfold appS; split
    · simp; omega
    · exact h
  · split
    · exact Nat.le_refl _
    · split
      · unfold repS; split
        · exact Nat.le_refl _
        · exact h
      · split
        · unfold trimS; split
          · show min n q.2.1.toNat ≤ (xs.take q.2.1.toNat).length
            rw [List.length_take]; omega
          · exact h
        · split
          · unfold crashS
            show left q.2.1 xs n ≤ (xs.take (left q.2.1 xs n)).length
            have := left_le q.2.1 xs n h
            rw [List.length_take]; omega
          · exact h

theorem Fo.before {B b R : Nat} {v : Value} {w w1 w' : World} {r : Int × List Int × Nat} (h : Fo B b R v w1 r w') (hb : Below w.heap.size w w1) : Fo B b R v w r w' := by
  obtain ⟨v', h1, h2⟩ := h
  exact ⟨v', h1, (Fx.of_below hb).trans h2⟩

section
variable {B : Nat} {w : World} {b : Nat} {v : Value} {xs : List Int} {n R : Nat}
set_option maxHeartbeats 2000000 in
theorem do_any (hB : B ≤ w.heap.size) (h : Fi B w b v xs n R) (hx : n ≤ xs.length) (what k : Int) (u : Value) (ys : List Int) (hu : Bs w u ys) :
    Calls Try.prog 12 #[.pointer (some ⟨b, 0, none⟩), .agg #[.int .i64 what, .int .i64 k, u]] w fun e w' =>
      Fe (doS R (what, k, ys) xs n) e ∧ Fo B b R v w (doS R (what, k, ys) xs n) w' := by
  obtain ⟨O, hO⟩ : ∃ O : Obj, Obj.cells #[.int .i64 what, .int .i64 k, u] 34 (0, 0) = O := ⟨_, rfl⟩
  have hb := ba w O
  have HB := hid hb
  have HF := hid (h.below hb)
  have HU := hid (hu.below hb)
  have HBB : B ≤ (w.alloc O).heap.size := Nat.le_trans hB (by simp)
  obtain ⟨ua, uc, rfl⟩ := hu.form
  have HO := hid hO
  rw [← hO] at HB HF HU HBB
  clear h hu hO hb
  obtain ⟨r, hr⟩ : ∃ r, doS R (what, k, ys) xs n = r := ⟨_, rfl⟩
  have HR := hid hr
  rw [hr]
  clear hr
  by_cases h0 : what = 0
  · subst h0
    have hr : r = appS R ys xs n := by rw [← HR.out]; unfold doS; simp
    subst hr
    go_enter Try.func12, Try.ntmps12
    go_wp2_with fail
    refine (fappend_any HBB HF.out _ ys HU.out).mono ?_
    rintro e w1 ⟨he, hf⟩
    have HE := hid he
    have HF1 := hid hf
    unfold Fe at he
    subst he
    clear hf
    go_wp2
    go_ret
    exact ⟨HE.out, HF1.out.before HB.out⟩
  · have h0' : (what == 0) = false := by simpa using h0
    by_cases h1 : what = 1
    · subst h1
      have hr : r = (0, xs, xs.length) := by rw [← HR.out]; unfold doS; simp
      subst hr
      go_enter Try.func12, Try.ntmps12
      go_wp2_with fail
      refine (sync_any HF.out).mono ?_
      rintro e w1 ⟨rfl, hf, hx1⟩
      have HF1 := hid hf
      have HX1 := hid hx1
      clear hf hx1
      go_wp2
      go_ret
      exact ⟨rfl, (Fo.mk HF1.out HX1.out rfl).before HB.out⟩
    · have h1' : (what == 1) = false := by simpa using h1
      by_cases h2 : what = 2
      · subst h2
        have hr : r = repS R ys xs n := by rw [← HR.out]; unfold doS; simp
        subst hr
        go_enter Try.func12, Try.ntmps12
        go_wp2_with fail
        refine (freplace_any HBB HF.out _ ys HU.out).mono ?_
        rintro e w1 ⟨he, hf⟩
        have HE := hid he
        have HF1 := hid hf
        unfold Fe at he
        subst he
        clear hf
        go_wp2
        go_ret
        exact ⟨HE.out, HF1.out.before HB.out⟩
      · have h2' : (what == 2) = false := by simpa using h2
        by_cases h3 : what = 3
        · subst h3
          have hr : r = trimS k xs n := by rw [← HR.out]; unfold doS; simp
          subst hr
          go_enter Try.func12, Try.ntmps12
          go_wp2_with fail
          refine (ftrim_any HF.out k).mono ?_
          rintro e w1 ⟨he, hf⟩
          have HE := hid he
          have HF1 := hid hf
          unfold Fe at he
          subst he
          clear hf
          go_wp2
          go_ret
          exact ⟨HE.out, HF1.out.before HB.out⟩
        · have h3' : (what == 3) = false := by simpa using h3
          by_cases h4 : what = 4
          · subst h4
            have hr : r = crashS k xs n := by rw [← HR.out]; unfold doS; simp
            subst hr
            go_enter Try.func12, Try.ntmps12
            go_wp2_with fail
            refine (fcrash_any HF.out hx k).mono ?_
            rintro e w1 ⟨rfl, hf⟩
            have HF1 := hid hf
            clear hf
            go_wp2
            go_ret
            exact ⟨rfl, HF1.out.before HB.out⟩
          · have h4' : (what == 4) = false := by simpa using h4
            have hr : r = (0, xs, n) := by rw [← HR.out]; unfold doS; simp [h0, h1, h2, h3, h4]
            subst hr
            go_enter Try.func12, Try.ntmps12
            go_wp2
            go_ret
            exact ⟨rfl, (Fo.mk HF.out (Fx.refl _ _ _) rfl).before HB.out⟩
end
end Go.Proofs.Ytiimhenapfejmaa

/-
  The reference's file in memory ('Re'), what may change while it is used ('Rx'), and what calls on it answer, in plain mathematics.
-/
namespace Go.Proofs.Ytiimhenapfejmaa
open Go.RowKit
set_option linter.unusedVariables false
set_option maxRecDepth 100000

/-- The reference's file: a block with two rows of the call's own. -/
structure Re (B : Nat) (w : World) (b : Nat) (s l : Value) (xs ys : List Int) (R : Nat) : Prop where
  blk : w.heap[b]? = some (.cells #[s, l, .int .i64 R] 44 (0, 0))
  base : B ≤ b
  os : Ow B w s xs
  ol : Ow B w l ys
  bs : Byt xs
  bl : Byt ys
  ne : ∀ k, s.ownBlock = some k → l.ownBlock ≠ some k
  len : xs.length ≤ R ∧ ys.length ≤ R
  lim : R ≤ 1048576
/-- What its use changes: its block, its rows'. -/
structure Rx (b : Nat) (s l s' l' : Value) (w w' : World) : Prop where
  fr : Fr (fun k => k = b ∨ s.ownBlock = some k ∨ l.ownBlock = some k) w w'
  new : ∀ k, s'.ownBlock = some k ∨ l'.ownBlock = some k → s.ownBlock = some k ∨ l.ownBlock = some k ∨ w.heap.size ≤ k

section
variable {B : Nat} {w w' w1 w2 : World} {b : Nat} {s l s' l' s2 l2 : Value} {xs ys : List Int} {R : Nat}
theorem Rx.refl (b : Nat) (s l : Value) (w : World) : Rx b s l s l w w := ⟨Fr.refl _ _, fun k h => h.elim .inl (fun h => .inr (.inl h))⟩
theorem Rx.of_below (h : Below w.heap.size w w') : Rx b s l s l w w' := ⟨Fr.of_below h, fun k h => h.elim .inl (fun h => .inr (.inl h))⟩
theorem Rx.drewN (h : Rx b s l s' l' w w') (m : Nat) : Rx b s l s' l' w (w'.drewN m) := ⟨h.fr.drewN m, h.new⟩
theorem Rx.size (h : Rx b s l s' l' w w') : w.heap.size ≤ w'.heap.size := h.fr.size
theorem Rx.trans (h : Rx b s l s' l' w w1) (k : Rx b s' l' s2 l2 w1 w2) : Rx b s l s2 l2 w w2 := by
  refine ⟨h.fr.trans k.fr ?_, ?_⟩
  · intro i hi hs
    rcases hs with hs | hs
    · exact .inl hs
    · rcases h.new i hs with e | e | e
      · exact .inr (.inl e)
      · exact .inr (.inr e)
      · omega
  · intro i hi
    have := h.fr.size
    rcases k.new i hi with e | e | e
    · exact h.new i (.inl e)
    · exact h.new i (.inr e)
    · exact .inr (.inr (by omega))
theorem Re.lt (h : Re B w b s l xs ys R) : b < w.heap.size := (Array.getElem?_eq_some_iff.1 h.blk).1
theorem Re.nes (h : Re B w b s l xs ys R) : s.ownBlock ≠ some b := h.os.far h.blk (by decide)
theorem Re.nel (h : Re B w b s l xs ys R) : l.ownBlock ≠ some b := h.ol.far h.blk (by decide)
theorem Re.of_block (h : Re B w b s l xs ys R) (hb : ∀ k, k = b ∨ s.ownBlock = some k ∨ l.ownBlock = some k → w'.heap[k]? = w.heap[k]?) : Re B w' b s l xs ys R :=
  ⟨by rw [hb b (.inl rfl)]; exact h.blk, h.base, h.os.of_block (fun k hk => hb k (.inr (.inl hk))), h.ol.of_block (fun k hk => hb k (.inr (.inr hk))), h.bs, h.bl, h.ne, h.len, h.lim⟩
theorem Re.inside (h : Re B w b s l xs ys R) {k : Nat} (hk : k = b ∨ s.ownBlock = some k ∨ l.ownBlock = some k) : B ≤ k ∧ k < w.heap.size := by
  rcases hk with rfl | hk | hk
  · exact ⟨h.base, h.lt⟩
  · exact h.os.lt k hk
  · exact h.ol.lt k hk
theorem Re.below (h : Re B w b s l xs ys R) (hb : Below w.heap.size w w') : Re B w' b s l xs ys R := h.of_block (fun k hk => hb.block k (h.inside hk).2)
theorem Re.drewN (h : Re B w b s l xs ys R) (m : Nat) : Re B (w.drewN m) b s l xs ys R := ⟨h.blk, h.base, h.os, h.ol, h.bs, h.bl, h.ne, h.len, h.lim⟩
theorem Re.fr (h : Re B w b s l xs ys R) (k : Rx b s l s' l' w w') (hB : B ≤ w.heap.size) : Below B w w' := k.fr.below (fun i hi hs => by have := (h.inside hs).1; omega) hB
/-- What the walk reads. -/
theorem Re.cells (h : Re B w b s l xs ys R) :
    ∃ a c a2 c2, s = .slice a xs.length c ∧ l = .slice a2 ys.length c2 ∧ xs.length ≤ c ∧ ys.length ≤ c2 ∧ w.cell? ⟨b, 0, none⟩ = some (.slice a xs.length c) ∧ w.cell? ⟨b, 1, none⟩ = some (.slice a2 ys.length c2) ∧ w.cell? ⟨b, 2, none⟩ = some (.int .i64 R) ∧ w.frozen? ⟨b, 0, none⟩ = false ∧ w.frozen? ⟨b, 1, none⟩ = false := by
  obtain ⟨a, c, e, hc⟩ := h.os.form
  obtain ⟨a2, c2, e2, hc2⟩ := h.ol.form
  refine ⟨a, c, a2, c2, e, e2, hc, hc2, ?_, ?_, ?_, frozen_of_row w b 0 _ _ h.blk, frozen_of_row w b 1 _ _ h.blk⟩
  · rw [cell_of_row w b 0 _ _ _ h.blk, ← e]; rfl
  · rw [cell_of_row w b 1 _ _ _ h.blk, ← e2]; rfl
  · rw [cell_of_row w b 2 _ _ _ h.blk]; rfl
/-- A store of the first row, in a world in which that row was changed alone. -/
theorem Re.put0 {zs : List Int} (h : Re B w b s l xs ys R) (hown : Ow B w' s' zs) (hfr : Fr (fun k => s.ownBlock = some k) w w') (hz : Byt zs) (hl : zs.length ≤ R)
    (hv : ∀ k, s'.ownBlock = some k → s.ownBlock = some k ∨ w.heap.size ≤ k) : Re B (w'.setCell ⟨b, 0, none⟩ s') b s' l zs ys R ∧ Rx b s l s' l w (w'.setCell ⟨b, 0, none⟩ s') := by
  have hb' : w'.heap[b]? = some (.cells #[s, l, .int .i64 R] 44 (0, 0)) := by rw [hfr.block b h.lt h.nes]; exact h.blk
  have hne' : s'.ownBlock ≠ some b := by
    intro e
    rcases hv b e with e | e
    · exact h.nes e
    · have := h.lt; omega
  have hol : Ow B w' l ys := h.ol.of_block (fun k hk => hfr.block k (h.ol.lt k hk).2 (fun e => h.ne k e hk))
  refine ⟨⟨by rw [heap_setCell_same w' b 0 _ _ s' hb']; simp, h.base, ownsRow_setCell_other hown hne' _, ownsRow_setCell_other hol h.nel _, hz, h.bl, ?_, ⟨hl, h.len.2⟩, h.lim⟩, ?_, ?_⟩
  · intro k hk e
    rcases hv k hk with h1 | h1
    · exact h.ne k h1 e
    · have := (h.ol.lt k e).2; omega
  · exact (hfr.mono (fun k e => .inr (.inl e))).trans ((Fr.of_set w' b 0 s').mono (fun k e => .inl e)) (fun _ _ h => h)
  · intro k hk
    rcases hk with hk | hk
    · exact (hv k hk).elim .inl (fun h => .inr (.inr h))
    · exact .inr (.inl hk)
/-- A store of the second row. -/
theorem Re.put1 {zs : List Int} (h : Re B w b s l xs ys R) (hown : Ow B w' l' zs) (hfr : Fr (fun k => l.ownBlock = some k) w w') (hz : Byt zs) (hl : zs.length ≤ R)
    (hv : ∀ k, l'.ownBlock = some k → l.ownBlock = some k ∨ w.heap.size ≤ k) : Re B (w'.setCell ⟨b, 1, none⟩ l') b s l' xs zs R ∧ Rx b s l s l' w (w'.setCell ⟨b, 1, none⟩ l') := by
  have hb' : w'.heap[b]? = some (.cells #[s, l, .int .i64 R] 44 (0, 0)) := by rw [hfr.block b h.lt h.nel]; exact h.blk
  have hne' : l'.ownBlock ≠ some b := by
    intro e
    rcases hv b e with e | e
    · exact h.nel e
    · have := h.lt; omega
  have hos : Ow B w' s xs := h.os.of_block (fun k hk => hfr.block k (h.os.lt k hk).2 (h.ne k hk))
  refine ⟨⟨by rw [heap_setCell_same w' b 1 _ _ l' hb']; simp, h.base, ownsRow_setCell_other hos h.nes _, ownsRow_setCell_other hown hne' _, h.bs, hz, ?_, ⟨h.len.1, hl⟩, h.lim⟩, ?_, ?_⟩
  · intro k hk e
    rcases hv k e with h1 | h1
    · exact h.ne k hk h1
    · have := (h.os.lt k hk).2; omega
  · exact (hfr.mono (fun k e => .inr (.inr e))).trans ((Fr.of_set w' b 1 l').mono (fun k e => .inl e)) (fun _ _ h => h)
  · intro k hk
    rcases hk with hk | hk
    · exact .inl hk
    · exact (hv k hk).elim (fun h => .inr (.inl h)) (fun h => .inr (.inr h))
theorem Re.nil1 (h : Re B w b s l xs ys R) : Re B (w.setCell ⟨b, 1, none⟩ (.slice none 0 0)) b s (.slice none 0 0) xs [] R ∧ Rx b s l s (.slice none 0 0) w (w.setCell ⟨b, 1, none⟩ (.slice none 0 0)) :=
  h.put1 (Ow.nil _ _) (Fr.refl _ _) Byt.nil (Nat.zero_le _) (fun k hk => by cases hk)
end

/-- A call on the reference's file did this. -/
def Ro (B b R : Nat) (s l : Value) (w : World) (xs ys : List Int) (w' : World) : Prop := ∃ s' l', Re B w' b s' l' xs ys R ∧ Rx b s l s' l' w w'
theorem Ro.before {B b R : Nat} {s l : Value} {w w1 w' : World} {xs ys : List Int} (h : Ro B b R s l w1 xs ys w') (hb : Below w.heap.size w w1) : Ro B b R s l w xs ys w' := by
  obtain ⟨s', l', h1, h2⟩ := h
  exact ⟨s', l', h1, (Rx.of_below hb).trans h2⟩

/-- What the reference's calls answer and leave. -/
def rapp (R : Nat) (us xs ys : List Int) : Int × List Int × List Int := if xs.length + ys.length + us.length ≤ R then (0, xs, ys ++ us) else (14, xs, ys)
def rrep (R : Nat) (us xs ys : List Int) : Int × List Int × List Int := if us.length ≤ R then (0, us, []) else (14, xs, ys)
def rtrim (k : Int) (xs ys : List Int) : Int × List Int × List Int :=
  if 0 ≤ k ∧ k ≤ xs.length + ys.length then (if k ≤ xs.length then (0, xs.take k.toNat, []) else (0, xs, ys.take (k.toNat - xs.length))) else (11, xs, ys)
def rcrash (k : Int) (xs ys : List Int) : Int × List Int × List Int := (0, xs ++ ys.take (min k.toNat ys.length), [])
def rdo (R : Nat) (q : Cal) (xs ys : List Int) : Int × List Int × List Int :=
  if q.1 = 0 then rapp R q.2.2 xs ys else if q.1 = 1 then (0, xs ++ ys, []) else if q.1 = 2 then rrep R q.2.2 xs ys else if q.1 = 3 then rtrim q.2.1 xs ys else if q.1 = 4 then rcrash q.2.1 xs ys else (0, xs, ys)

/-- Both are in the same state. -/
def Alike (r : Int × List Int × Nat) (p : Int × List Int × List Int) : Prop := r.1 = p.1 ∧ r.2.1 = p.2.1 ++ p.2.2 ∧ r.2.2 = p.2.1.length
theorem alike_do (R : Nat) (q : Cal) (xs ys : List Int) : Alike (doS R q (xs ++ ys) xs.length) (rdo R q xs ys) := by
  unfold doS rdo
  split
  · unfold appS rapp
    rw [List.length_append]
    split
    · exact ⟨rfl, List.append_assoc _ _ _, rfl⟩
    · exact ⟨rfl, rfl, rfl⟩
  · split
    · exact ⟨rfl, (List.append_nil _).symm, rfl⟩
    · split
      · unfold repS rrep
        split
        · exact ⟨rfl, (List.append_nil _).symm, rfl⟩
        · exact ⟨rfl, rfl, rfl⟩
      · split
        · unfold trimS rtrim
          rw [List.length_append]
          have hc : (0 ≤ q.2.1 ∧ q.2.1 ≤ ((xs.length + ys.length : Nat) : Int)) ↔ (0 ≤ q.2.1 ∧ q.2.1 ≤ (xs.length : Int) + ys.length) := by omega
          by_cases h : 0 ≤ q.2.1 ∧ q.2.1 ≤ (xs.length : Int) + ys.length
          · rw [if_pos (hc.2 h), if_pos h]
            by_cases h2 : q.2.1 ≤ xs.length
            · rw [if_pos h2]
              refine ⟨rfl, ?_, ?_⟩
              · rw [List.append_nil]
                show (xs ++ ys).take q.2.1.toNat = xs.take q.2.1.toNat
                rw [List.take_append_of_le_length (by omega)]
              · show min xs.length q.2.1.toNat = (xs.take q.2.1.toNat).length
                rw [List.length_take]; omega
            · rw [if_neg h2]
              refine ⟨rfl, ?_, ?_⟩
              · show (xs ++ ys).take q.2.1.toNat = xs ++ ys.take (q.2.1.toNat - xs.length)
                rw [List.take_append, List.take_of_length_le (by omega)]
              · show min xs.length q.2.1.toNat = xs.length
                omega
          · rw [if_neg (fun e => h (hc.1 e)), if_neg h]
            exact ⟨rfl, rfl, rfl⟩
        · split
          · unfold crashS rcrash left
            rw [List.length_append, show xs.length + ys.length - xs.length = ys.length by omega]
            refine ⟨rfl, ?_, ?_⟩
            · rw [List.append_nil]
              show (xs ++ ys).take (xs.length + min q.2.1.toNat ys.length) = xs ++ ys.take (min q.2.1.toNat ys.length)
              rw [List.take_append, List.take_of_length_le (by omega), show xs.length + min q.2.1.toNat ys.length - xs.length = min q.2.1.toNat ys.length by omega]
            · show xs.length + min q.2.1.toNat ys.length = (xs ++ ys.take (min q.2.1.toNat ys.length)).length
              rw [List.length_append, List.length_take]; omega
          · exact ⟨rfl, rfl, rfl⟩

end Go.Proofs.Ytiimhenapfejmaa

/-
  What offshootref00.CopyBytes returns is proved here, for all slices that read as bytes, of at most 2^47 of them: a row of its own.
-/
namespace Go.Proofs.Ytiimhenapfejmaa
open Go.RowKit
set_option linter.unusedVariables false
set_option maxRecDepth 100000

set_option maxHeartbeats 2000000 in
/-- A copy: a row of its own, not nil. -/
theorem copy_own (v : Value) (xs : List Int) (w : World) (h : Bs w v xs) (hn : xs.length ≤ 140737488355328) :
    Calls Try.prog 11 #[v] w fun e w' => ∃ g cap, e = .returned (.slice (some ⟨g, 0, none⟩) xs.length cap) ∧ w'.ownsRow w.heap.size 5 1 (.slice (some ⟨g, 0, none⟩) xs.length cap) xs.length (cs xs) ∧ Below w.heap.size w w' := by
  have h' := h
  obtain ⟨a, c, rfl, _⟩ := h
  obtain ⟨i0, hi, hz0, hz1, hz2⟩ := info_parts info_u8
  have hown0 : (w.alloc (.cells #[] 5)).ownsRow w.heap.size 5 1 (.slice (some ⟨w.heap.size, 0, none⟩) 0 0) 0 [] := World.ownsRow_made w #[] 0 (Nat.le_refl _) (Nat.zero_le _) rfl
  cases a with
  | none =>
    have hx : xs.length = 0 := by
      obtain ⟨a', c', h1, h2, _, h4, _⟩ := h'
      simp only [Value.slice.injEq] at h1
      have := h4 h1.1.symm
      omega
    have e1 : xs = [] := List.eq_nil_of_length_eq_zero hx
    subst e1
    go_enter Try.func11, Try.ntmps11
    go_wp2
    go_ret
    exact ⟨_, _, rfl, hown0, ba _ _⟩
  | some A =>
    have hcell := cells_at h'
    have HC := hid hcell
    clear hcell h'
    go_enter Try.func11, Try.ntmps11
    go_wp2_with (at_builtin; refine wpList_append_own _ rfl (.tmp 5) (.tmp 6) 32 rfl w.heap.size 5 i0 (.int .u8 0) 1 1 Try.underlying32 hi hz0 hz1 hz2 rfl (by decide) _ _ _ rfl hown0 A xs.length c (cs xs) rfl ?c0 ?c1 (ints_oneCell .u8 xs) ?c3 ?c4 ?c5 ?_)
    case c0 => simp
    case c1 =>
      intro j u hu
      have h1 := HC.out j u hu
      have hb := World.block_lt_of_cell? _ _ h1
      rw [((Below.refl w.heap.size w).alloc (Nat.le_refl _) _).cell hb]
      exact h1
    case c3 => unfold maxLen; omega
    case c4 => omega
    case c5 => simp
    intro v' w1 hown hgrow hnil
    have hb : Below w.heap.size w w1 := ((Below.refl _ w).alloc (Nat.le_refl _) (.cells #[] 5)).grown hgrow (by simp) (by intro k hk; simp [Value.ownBlock] at hk; omega)
    have hv : ∃ g cap, v' = .slice (some ⟨g, 0, none⟩) xs.length cap := by
      rcases hown.2 with ⟨e, _⟩ | ⟨g, cap, cur, e, _⟩
      · exact absurd e hnil
      · exact ⟨g, cap, by simpa using e⟩
    have hown' : w1.ownsRow w.heap.size 5 1 v' xs.length (cs xs) := by simpa using hown
    obtain ⟨g, cap, rfl⟩ := hv
    clear hown hgrow hown0 hnil
    go_wp2
    go_ret
    exact ⟨_, _, rfl, hown', hb⟩

end Go.Proofs.Ytiimhenapfejmaa

/-
  What an append of bytes to a row of the call's own comes to, as one step of a region whose order is drawn.
-/
namespace Go.Proofs.Ytiimhenapfejmaa
open Go.RowKit
set_option linter.unusedVariables false
set_option maxRecDepth 100000

/-- An append of bytes, as one step of a region whose order is drawn. -/
theorem step_append_bs {w : World} {ops : Array Oper} {o : Oper} {a : Act} {K : Act → World → Prop} {Q : Exit → Act → World → Prop} {E : Prop} (hgd : o.guard = none) (s x : Operand)
    (ho : o.op = .call { callee := .builtin .append, args := #[s, x], argTypes := #[32, 32] })
    (base : Nat) (v : Value) (n : Nat) (xs : List Int) (hs : a.eval s = v) (hown : w.ownsRow base 5 1 v n (cs xs)) (u : Value) (ys : List Int) (hx : a.eval x = u) (hu : Bs w u ys)
    (hb : n + ys.length ≤ 140737488355328) (hbase : base ≤ w.heap.size)
    (h : ∀ v' w', w'.ownsRow base 5 1 v' (n + ys.length) (cs (xs ++ ys)) → w.grownBy w' v.ownBlock → (v'.ownBlock = v.ownBlock ∨ v'.ownBlock = some w.heap.size) → K (a.put o.dst v') w') :
    if Region.wanted o (yielded ops a.tmps) = true then Oper.wp Try.prog o a w K Q else E := by
  have hw : Region.wanted o (yielded ops a.tmps) = true := by simp [Region.wanted, hgd]
  rw [if_pos hw]
  obtain ⟨i0, hi, hz0, hz1, hz2⟩ := info_parts info_u8
  have hf : ∃ A c, u = .slice A ys.length c := by
    obtain ⟨A, c, e, _⟩ := hu
    exact ⟨A, c, e⟩
  obtain ⟨A, c, rfl⟩ := hf
  cases A with
  | none =>
    obtain ⟨rfl, _, rfl⟩ := hu.none_nil
    have hrun := run_append_owned_none (P := Try.prog) (w := w) base 32 o.type 5 i0 1 Try.underlying32 hi v n (cs xs) hown
    unfold Oper.wp
    simp [execOp, ho, resolve, invoke, builtin, hs, hx, hrun, Result.andThen]
    exact h v w (by simpa using hown) (World.grownBy.rfl' _ _) (Or.inl rfl)
  | some A =>
    obtain ⟨v', w', hr, h2, h3, h4, h5⟩ := run_append_own_at (P := Try.prog) w base 32 o.type 5 i0 (.int .u8 0) 1 1 Try.underlying32 hi hz0 hz1 hz2 rfl (by decide) v n (cs xs) hown A ys.length c (cs ys) (by simp) (cells_at hu) (ints_oneCell .u8 ys) (by unfold maxLen; omega) (by omega) hbase
    unfold Oper.wp execOp
    simp only [ho, resolve, invoke, builtin, Sem.run_bind, Sem.run_pure, Result.andThen_ok, List.map_toArray, List.map_cons, List.map_nil, hs, hx, hr]
    exact h v' w' (by simpa using h2) h3 h5

end Go.Proofs.Ytiimhenapfejmaa

/-
  What the reference's Room, Bytes, New, Load, Append, Sync, Replace, Trim and Crash do is proved here, for all its files, numbers and bytes.
-/
namespace Go.Proofs.Ytiimhenapfejmaa
open Go.RowKit
set_option linter.unusedVariables false
set_option maxRecDepth 100000

section
variable {B : Nat} {w : World} {b : Nat} {s l : Value} {xs ys : List Int} {R : Nat}

set_option maxHeartbeats 1000000 in
theorem rroom_any (h : Re B w b s l xs ys R) : Calls Try.prog 24 #[.pointer (some ⟨b, 0, none⟩)] w fun e w' => e = .returned (.int .i64 ((R : Int) - xs.length - ys.length)) ∧ ∃ m, w' = w.drewN m := by
  obtain ⟨hl, hl2⟩ := h.len
  have hR := h.lim
  obtain ⟨a, c, a2, c2, rfl, rfl, -, -, g0, g1, g2, -, -⟩ := h.cells
  clear h
  go_enter Try.func24, Try.ntmps24
  go_wp2
  go_quiet (fail)
  go_wp2
  go_ret
  exact ⟨rfl, _, rfl⟩

set_option maxHeartbeats 2000000 in
theorem rappend_any (hB : B ≤ w.heap.size) (h : Re B w b s l xs ys R) (u : Value) (us : List Int) (hu : Bs w u us) :
    Calls Try.prog 13 #[.pointer (some ⟨b, 0, none⟩), u] w fun e w' =>
      e = .returned (.int .i64 (rapp R us xs ys).1) ∧ Ro B b R s l w (rapp R us xs ys).2.1 (rapp R us xs ys).2.2 w' := by
  have HF := hid h
  have HU := hid hu
  obtain ⟨hl, hl2⟩ := h.len
  have hR := h.lim
  have hm := hu.len
  unfold maxLen at hm
  obtain ⟨ua, uc, rfl⟩ := hu.form
  obtain ⟨N, hN⟩ : ∃ N, xs.length = N := ⟨_, rfl⟩
  obtain ⟨N2, hN2⟩ : ∃ N, ys.length = N := ⟨_, rfl⟩
  obtain ⟨M, hM⟩ : ∃ M, us.length = M := ⟨_, rfl⟩
  have HN := hid hN
  have HN2 := hid hN2
  have HM := hid hM
  by_cases hlt : (R : Int) - N - N2 < M
  · rw [show rapp R us xs ys = (14, xs, ys) from if_neg (by omega)]
    rw [hN] at hl
    rw [hN2] at hl2
    rw [hM] at hm ⊢
    clear h hu hN hM hN2
    go_enter Try.func13, Try.ntmps13
    go_wp2_with fail
    refine (rroom_any HF.out).mono ?_
    rintro e w1 ⟨rfl, m, rfl⟩
    rw [HN.out, HN2.out]
    go_wp2
    go_ret
    exact ⟨rfl, _, _, HF.out.drewN _, (Rx.refl _ _ _ _).drewN _⟩
  · have hlt' : ¬ (R : Int) - N - N2 < M := hlt
    have hle : N + N2 + M ≤ R := by omega
    rw [show rapp R us xs ys = (0, xs, ys ++ us) from if_pos (by omega)]
    obtain ⟨a, c, a2, c2, rfl, rfl, hc, hc2, g0, g1, g2, f0, f1⟩ := h.cells
    rw [hN] at hl hc g0 HF ⊢
    rw [hN2] at hl2 hc2 g1 HF ⊢
    rw [hM] at hm HU ⊢
    clear h hu hN hM hN2
    go_enter Try.func13, Try.ntmps13
    go_wp2_with fail
    refine (rroom_any HF.out).mono ?_
    rintro e w1 ⟨rfl, m, rfl⟩
    rw [HN.out, HN2.out]
    go_wp2_with (at_builtin; refine wpList_append_bs rfl (.tmp 14) (.tmp 15) rfl B (.slice a2 N2 c2) N2 ys rfl ?c0 _ us rfl ?c1 ?c2 ?c3 ?_)
    case c0 => have := HF.out.ol; rw [Ow, HN2.out] at this; exact this
    case c1 => exact HU.out
    case c2 => rw [HM.out]; omega
    case c3 => exact hB
    intro v1 w1 hown hgrow hv
    have hO : Ow B w1 v1 (ys ++ us) := by rw [Ow, List.length_append, HN2.out]; simpa [cs] using hown
    have hP := HF.out.put1 (w' := w1) (l' := v1) (zs := ys ++ us) hO (Fr.of_grown (World.grownBy.of_drewN hgrow) (fun k hk => hk)) (HF.out.bl.append HU.out.range) (by rw [List.length_append, HN2.out, HM.out]; omega) (fun k hk => by
      rcases hv with e | e
      · exact .inl (by rw [← e]; exact hk)
      · rw [e] at hk; simp at hk; exact .inr (by rw [← hk]; exact Nat.le_refl _))
    have HP := hid hP
    have qb := hgrow.block b HF.out.lt (Ne.symm HF.out.nel)
    have q1 : w1.frozen? ⟨b, 1, none⟩ = false := (World.frozen?_of_block (a := ⟨b, 1, none⟩) qb).trans f1
    have q2 : w1.cell? ⟨b, 1, none⟩ = some (.slice a2 N2 c2) := (World.cell?_of_block (a := ⟨b, 1, none⟩) qb).trans g1
    obtain ⟨a1, k1, rfl, -⟩ := hO.form
    clear hown hgrow hv hO hP g0 g1 g2 f0 f1 qb
    go_wp2
    go_ret
    have hP := HP.out
    rw [List.length_append] at hP
    exact ⟨rfl, _, _, hP.1, hP.2⟩

set_option maxHeartbeats 2000000 in
theorem rreplace_any (hB : B ≤ w.heap.size) (h : Re B w b s l xs ys R) (u : Value) (us : List Int) (hu : Bs w u us) :
    Calls Try.prog 15 #[.pointer (some ⟨b, 0, none⟩), u] w fun e w' =>
      e = .returned (.int .i64 (rrep R us xs ys).1) ∧ Ro B b R s l w (rrep R us xs ys).2.1 (rrep R us xs ys).2.2 w' := by
  have HF := hid h
  have HU := hid hu
  obtain ⟨hl, hl2⟩ := h.len
  have hR := h.lim
  have hm := hu.len
  unfold maxLen at hm
  obtain ⟨ua, uc, rfl⟩ := hu.form
  obtain ⟨a, c, a2, c2, rfl, rfl, hc, hc2, g0, g1, g2, f0, f1⟩ := h.cells
  obtain ⟨M, hM⟩ : ∃ M, us.length = M := ⟨_, rfl⟩
  have HM := hid hM
  by_cases hlt : (R : Int) < M
  · rw [show rrep R us xs ys = (14, xs, ys) from if_neg (by omega)]
    rw [hM] at hm HU ⊢
    clear h hu hM
    go_enter Try.func15, Try.ntmps15
    go_wp2
    go_ret
    exact ⟨rfl, _, _, HF.out, Rx.refl _ _ _ _⟩
  · have hlt' : ¬ (R : Int) < M := hlt
    rw [show rrep R us xs ys = (0, us, []) from if_pos (by omega)]
    rw [hM] at hm HU ⊢
    clear h hu hM
    go_enter Try.func15, Try.ntmps15
    go_wp2_with fail
    refine (copy_own _ us w HU.out (by rw [HM.out]; omega)).mono ?_
    rintro e w1 ⟨g, cap, rfl, hO, hb⟩
    have hF : ∀ k, (Value.slice (some ⟨g, 0, none⟩) us.length cap).ownBlock = some k → w.heap.size ≤ k := fun k hk => (hO.lt k hk).1
    have hP := HF.out.put0 (w' := w1) (s' := .slice (some ⟨g, 0, none⟩) us.length cap) (zs := us) (Ow.mono hO hB) (Fr.of_below hb) HU.out.range (by rw [HM.out]; omega) (fun k hk => .inr (hF k hk))
    have hQ := hP.1.nil1
    have HQ := hid hQ.1
    have HX := hid (hP.2.trans hQ.2)
    have q1 : w1.frozen? ⟨b, 0, none⟩ = false := (World.frozen?_of_block (a := ⟨b, 0, none⟩) (hb.block b HF.out.lt)).trans f0
    have q2 : w1.cell? ⟨b, 0, none⟩ = some (.slice a xs.length c) := (World.cell?_of_block (a := ⟨b, 0, none⟩) (hb.block b HF.out.lt)).trans g0
    have q3 : w1.frozen? ⟨b, 1, none⟩ = false := (World.frozen?_of_block (a := ⟨b, 1, none⟩) (hb.block b HF.out.lt)).trans f1
    have q4 : w1.cell? ⟨b, 1, none⟩ = some (.slice a2 ys.length c2) := (World.cell?_of_block (a := ⟨b, 1, none⟩) (hb.block b HF.out.lt)).trans g1
    clear hO hb hF hP hQ g0 g1 g2 f0 f1
    go_wp2
    go_ret
    exact ⟨rfl, _, _, HQ.out, HX.out⟩

set_option maxHeartbeats 2000000 in
theorem rsync_any (hB : B ≤ w.heap.size) (h : Re B w b s l xs ys R) (hsum : xs.length + ys.length ≤ R) :
    Calls Try.prog 14 #[.pointer (some ⟨b, 0, none⟩)] w fun e w' => e = .returned (.tuple #[]) ∧ Ro B b R s l w (xs ++ ys) [] w' := by
  have HF := hid h
  have hR := h.lim
  obtain ⟨a, c, a2, c2, rfl, rfl, hc, hc2, g0, g1, g2, f0, f1⟩ := h.cells
  clear h
  have hlx : xs.length + ys.length ≤ 140737488355328 := by omega
  go_enter Try.func14, Try.ntmps14
  go_wp2_with fail
  go_region_law (refine step_append_bs rfl _ _ rfl B _ _ xs rfl HF.out.os _ ys rfl (HF.out.ol.bs HF.out.bl) hlx hB ?_; intro v3 w3 hown3 hg3 hv3; rw [← List.length_append] at hown3; have hp := HF.out.put0 (w' := w3) (s' := v3) (zs := xs ++ ys) hown3 (Fr.of_grown (World.grownBy.of_drewN (n := 1) hg3) (fun k hk => hk)) (HF.out.bs.append HF.out.bl) (by rw [List.length_append]; exact hsum) (fun k hk => hv3.elim (fun e => .inl (e ▸ hk)) (fun e => .inr (by rw [e] at hk; simp at hk; exact Nat.le_of_eq hk))); have HP := hid hp; obtain ⟨a3, c3, rfl, _⟩ := own_form hown3; simp only [List.length_append] at HP; have qb := hg3.block b HF.out.lt (Ne.symm HF.out.nes); have hc3 : w3.cell? ⟨b, 0, none⟩ = some (.slice a xs.length c) := (World.cell?_of_block (a := ⟨b, 0, none⟩) qb).trans g0; have hfz3 : w3.frozen? ⟨b, 0, none⟩ = false := (World.frozen?_of_block (a := ⟨b, 0, none⟩) qb).trans f0; have hc4 := (World.cell?_of_block (a := ⟨b, 1, none⟩) qb).trans g1; have hfz4 : w3.frozen? ⟨b, 1, none⟩ = false := (World.frozen?_of_block (a := ⟨b, 1, none⟩) qb).trans f1; clear qb hg3 hv3)
  all_goals
    have hQ := HP.out.1.nil1
    have HQ := hid hQ.1
    have HX := hid (HP.out.2.trans hQ.2)
    clear hQ hp HP
    go_wp2
    go_end0
    exact ⟨rfl, _, _, HQ.out, HX.out⟩

set_option maxHeartbeats 2000000 in
theorem rcrash_any (hB : B ≤ w.heap.size) (h : Re B w b s l xs ys R) (hsum : xs.length + ys.length ≤ R) (k : Int) :
    Calls Try.prog 17 #[.pointer (some ⟨b, 0, none⟩), .int .i64 k] w fun e w' => e = .returned (.tuple #[]) ∧ Ro B b R s l w (xs ++ ys.take (min k.toNat ys.length)) [] w' := by
  have HF := hid h
  have hR := h.lim
  obtain ⟨a, c, a2, c2, rfl, rfl, hc, hc2, g0, g1, g2, f0, f1⟩ := h.cells
  clear h
  obtain ⟨N2, hN2⟩ : ∃ N, ys.length = N := ⟨_, rfl⟩
  obtain ⟨L, hL⟩ : ∃ L, min k.toNat N2 = L := ⟨_, rfl⟩
  have hLN : L ≤ N2 := by omega
  have HY : Hid (Bs w (.slice a2 L c2) (ys.take L)) := (HF.out.ol.bs HF.out.bl).take L (by omega)
  have htl : (ys.take L).length = L := by rw [List.length_take]; omega
  have HTL := hid htl
  have HLX : Hid (xs.length + (ys.take L).length ≤ 140737488355328) := by show _ ≤ _; omega
  have HSM : Hid ((xs ++ ys.take L).length ≤ R) := by show _ ≤ _; rw [List.length_append]; omega
  have HBY : Hid (Byt (ys.take L)) := HF.out.bl.take L
  rw [hN2, hL]
  rw [hN2] at hc2 g1 HF
  clear htl hsum HTL
  have hLc : L ≤ c2 := by omega
  obtain ⟨zs, hzs⟩ : ∃ zs, ys.take L = zs := ⟨_, rfl⟩
  rw [hzs] at HY HLX HSM HBY ⊢
  clear hzs
  by_cases h1 : k < 0
  · obtain rfl : L = 0 := by omega
    clear hL hN2
    go_enter Try.func17, Try.ntmps17
    go_wp2
    go_region_law (refine step_append_bs rfl _ _ rfl B _ _ xs rfl HF.out.os _ zs rfl HY.out HLX.out hB ?_; intro v3 w3 hown3 hg3 hv3; rw [← List.length_append] at hown3; have hp := HF.out.put0 (w' := w3) (s' := v3) (zs := xs ++ zs) hown3 (Fr.of_grown (World.grownBy.of_drewN (n := 1) hg3) (fun k hk => hk)) (HF.out.bs.append HBY.out) HSM.out (fun k hk => hv3.elim (fun e => .inl (e ▸ hk)) (fun e => .inr (by rw [e] at hk; simp at hk; exact Nat.le_of_eq hk))); have HP := hid hp; obtain ⟨a3, c3, rfl, _⟩ := own_form hown3; have qb := hg3.block b HF.out.lt (Ne.symm HF.out.nes); have hc3 : w3.cell? ⟨b, 0, none⟩ = some (.slice a xs.length c) := (World.cell?_of_block (a := ⟨b, 0, none⟩) qb).trans g0; have hfz3 : w3.frozen? ⟨b, 0, none⟩ = false := (World.frozen?_of_block (a := ⟨b, 0, none⟩) qb).trans f0; have hc4 := (World.cell?_of_block (a := ⟨b, 1, none⟩) qb).trans g1; have hfz4 : w3.frozen? ⟨b, 1, none⟩ = false := (World.frozen?_of_block (a := ⟨b, 1, none⟩) qb).trans f1; clear qb hg3 hv3)
    all_goals
      have hQ := HP.out.1.nil1
      have HQ := hid hQ.1
      have HX := hid (HP.out.2.trans hQ.2)
      simp only [List.length_append] at HQ HX
      go_wp2
      go_end0
      exact ⟨rfl, _, _, HQ.out, HX.out⟩
  · obtain ⟨m, rfl⟩ : ∃ m : Nat, k = m := ⟨k.toNat, by omega⟩
    have h1' : ¬ (m : Int) < 0 := h1
    by_cases h2 : (N2 : Int) < m
    · obtain rfl : L = N2 := by omega
      clear hL hN2
      go_enter Try.func17, Try.ntmps17
      go_wp2
      go_region_law (refine step_append_bs rfl _ _ rfl B _ _ xs rfl HF.out.os _ zs rfl HY.out HLX.out hB ?_; intro v3 w3 hown3 hg3 hv3; rw [← List.length_append] at hown3; have hp := HF.out.put0 (w' := w3) (s' := v3) (zs := xs ++ zs) hown3 (Fr.of_grown (World.grownBy.of_drewN (n := 1) hg3) (fun k hk => hk)) (HF.out.bs.append HBY.out) HSM.out (fun k hk => hv3.elim (fun e => .inl (e ▸ hk)) (fun e => .inr (by rw [e] at hk; simp at hk; exact Nat.le_of_eq hk))); have HP := hid hp; obtain ⟨a3, c3, rfl, _⟩ := own_form hown3; have qb := hg3.block b HF.out.lt (Ne.symm HF.out.nes); have hc3 : w3.cell? ⟨b, 0, none⟩ = some (.slice a xs.length c) := (World.cell?_of_block (a := ⟨b, 0, none⟩) qb).trans g0; have hfz3 : w3.frozen? ⟨b, 0, none⟩ = false := (World.frozen?_of_block (a := ⟨b, 0, none⟩) qb).trans f0; have hc4 := (World.cell?_of_block (a := ⟨b, 1, none⟩) qb).trans g1; have hfz4 : w3.frozen? ⟨b, 1, none⟩ = false := (World.frozen?_of_block (a := ⟨b, 1, none⟩) qb).trans f1; clear qb hg3 hv3)
      all_goals
        have hQ := HP.out.1.nil1
        have HQ := hid hQ.1
        have HX := hid (HP.out.2.trans hQ.2)
        simp only [List.length_append] at HQ HX
        go_wp2
        go_end0
        exact ⟨rfl, _, _, HQ.out, HX.out⟩
    · obtain rfl : L = m := by omega
      have h2' : ¬ (N2 : Int) < L := h2
      clear hL hN2
      go_enter Try.func17, Try.ntmps17
      go_wp2
      go_region_law (refine step_append_bs rfl _ _ rfl B _ _ xs rfl HF.out.os _ zs rfl HY.out HLX.out hB ?_; intro v3 w3 hown3 hg3 hv3; rw [← List.length_append] at hown3; have hp := HF.out.put0 (w' := w3) (s' := v3) (zs := xs ++ zs) hown3 (Fr.of_grown (World.grownBy.of_drewN (n := 1) hg3) (fun k hk => hk)) (HF.out.bs.append HBY.out) HSM.out (fun k hk => hv3.elim (fun e => .inl (e ▸ hk)) (fun e => .inr (by rw [e] at hk; simp at hk; exact Nat.le_of_eq hk))); have HP := hid hp; obtain ⟨a3, c3, rfl, _⟩ := own_form hown3; have qb := hg3.block b HF.out.lt (Ne.symm HF.out.nes); have hc3 : w3.cell? ⟨b, 0, none⟩ = some (.slice a xs.length c) := (World.cell?_of_block (a := ⟨b, 0, none⟩) qb).trans g0; have hfz3 : w3.frozen? ⟨b, 0, none⟩ = false := (World.frozen?_of_block (a := ⟨b, 0, none⟩) qb).trans f0; have hc4 := (World.cell?_of_block (a := ⟨b, 1, none⟩) qb).trans g1; have hfz4 : w3.frozen? ⟨b, 1, none⟩ = false := (World.frozen?_of_block (a := ⟨b, 1, none⟩) qb).trans f1; clear qb hg3 hv3)
      all_goals
        have hQ := HP.out.1.nil1
        have HQ := hid hQ.1
        have HX := hid (HP.out.2.trans hQ.2)
        simp only [List.length_append] at HQ HX
        go_wp2
        go_end0
        exact ⟨rfl, _, _, HQ.out, HX.out⟩
end
end Go.Proofs.Ytiimhenapfejmaa
