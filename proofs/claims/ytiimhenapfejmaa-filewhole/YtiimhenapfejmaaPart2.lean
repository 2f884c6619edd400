/-
  Parts of the proof, one behind the other; what each proves stands at its head.
-/
import Derived.Test.YtiimhenapfejmaaPart1
import Derived.Lib.SlBytesConst
import Derived.Test.YtiimhenapfejmaaRows
import Derived.Deep.QuietTactic
import Derived.BigQuiet
import Derived.Deep.Matrix
import Derived.SizedLaws

/-
  That alive answers true is proved here.
-/
namespace Go.Proofs.Ytiimhenapfejmaa
open Go.RowKit
set_option linter.unusedVariables false
set_option maxRecDepth 100000

theorem World.grownBy.below' {w w' : World} {m : Nat} (h : (w.drewN m).grownBy w' none) : Below w.heap.size w w' := ⟨h.os, h.tape, h.output, h.size, fun k hk => h.block k hk (by simp)⟩
/-- A row of bytes that is a block by itself. -/
theorem Bs.blk {w : World} {b e : Nat} {fr : Nat × Nat} (xs : List Int) (h : w.heap[b]? = some (.cells (cs xs).toArray e fr)) (hl : xs.length ≤ maxLen) (hr : ∀ x ∈ xs, 0 ≤ x ∧ x < 256) :
    Bs w (.slice (some ⟨b, 0, none⟩) xs.length xs.length) xs := by
  refine ⟨_, _, rfl, Nat.le_refl _, hl, (fun e => by cases e), fun i hi => ⟨b, 0, rfl, ?_⟩, hr⟩
  rw [Nat.zero_add, cell_of_row w b i _ e fr h]
  simp [hi]

set_option maxHeartbeats 2000000 in
theorem alive_any (w : World) : Calls Try.prog 7 #[] w fun e w' => e = .returned (.bool true) ∧ Below w.heap.size w w' := by
  have r1 : appS 9 [97, 98] [] 0 = (0, [97, 98], 0) := by decide
  have r2 : appS 9 [99, 100] [97, 98] 2 = (0, [97, 98, 99, 100], 2) := by decide
  have r3 : crashS 1 [97, 98, 99, 100] 2 = (0, [97, 98, 99], 3) := by decide
  have r4 : appS 9 [0, 0, 0, 0, 0, 0, 0] [97, 98, 99] 3 = (14, [97, 98, 99], 3) := by decide
  have R1 := hid r1
  have R2 := hid r2
  have R3 := hid r3
  have R4 := hid r4
  clear r1 r2 r3 r4
  have kc := fun (w : World) (C : Array Value) (n c : Nat) => Lib.run_convert_bytes_const (P := Try.prog) w 32 5 C n c Try.underlying32 Try.underlying5
  go_enter Try.func7, Try.ntmps7
  go_wp2_with fail
  refine (new_ok 9 (by decide)).mono ?_
  rintro e w1 ⟨rfl, b1, v1, hf1⟩
  obtain ⟨b, hb⟩ : ∃ b, w.heap.size = b := ⟨_, rfl⟩
  have HB := hid hb
  rw [hb] at b1 hf1 ⊢
  have HB1 := hid b1
  have HF1 := hid hf1
  have HL1 := hf1.lt
  clear b1 hf1 hb
  go_wp2_with fail
  refine (fappend_any (ys := [97, 98]) (by simp; omega) (HF1.out.below (ba w1 _)) _ (Bs.blk (e := 5) (fr := (2, 3)) [97, 98] (heap_alloc_new w1 _) (by decide) (by decide))).mono ?_
  rintro e w2 ⟨he, hf⟩
  obtain rfl := he.out R1.out
  obtain ⟨v2, hf2, hx2⟩ := hf.out R1.out
  have hl2 := hx2.size
  have hs2 : b < w2.heap.size := hf2.lt
  have HB2 := hid ((HB1.out.trans ((ba w1 _).mono (by omega))).trans ((HF1.out.below (ba w1 _)).fr hx2 (by simp; omega)))
  have HF2 := hid hf2
  clear he hf hf2 hx2 hl2
  go_wp2_with fail
  refine (sync_any HF2.out).mono ?_
  rintro e w3 ⟨rfl, hf3, hx3⟩
  have hs3 : b < w3.heap.size := hf3.lt
  have HB3 := hid (HB2.out.trans (HF2.out.fr hx3 (by omega)))
  have HF3 := hid hf3
  clear hf3 hx3
  go_wp2_with fail
  refine (fappend_any (ys := [99, 100]) (by simp; omega) (HF3.out.below (ba w3 _)) _ (Bs.blk (e := 5) (fr := (2, 3)) [99, 100] (heap_alloc_new w3 _) (by decide) (by decide))).mono ?_
  rintro e w4 ⟨he, hf⟩
  obtain rfl := he.out R2.out
  obtain ⟨v4, hf4, hx4⟩ := hf.out R2.out
  have hs4 : b < w4.heap.size := hf4.lt
  have HB4 := hid ((HB3.out.trans ((ba w3 _).mono (by omega))).trans ((HF3.out.below (ba w3 _)).fr hx4 (by simp; omega)))
  have HF4 := hid hf4
  clear he hf hf4 hx4
  go_wp2_with fail
  refine (fcrash_any HF4.out (by decide) 1).mono ?_
  rintro e w5 ⟨rfl, hf⟩
  obtain ⟨v5, hf5, hx5⟩ := hf.out R3.out
  have hs5 : b < w5.heap.size := hf5.lt
  have HB5 := hid (HB4.out.trans (HF4.out.fr hx5 (by omega)))
  have HF5 := hid hf5
  clear hf hf5 hx5
  go_wp2_with fail
  refine (bytes_any HF5.out).mono ?_
  rintro e w6 ⟨v6, rfl, ho, hb6⟩
  have hcv := conv_str (ho.bs HF5.out.byt)
  obtain ⟨a6, c6, rfl, -⟩ := ho.form
  have hm : M.str [97, 98, 99] = ⟨#[97, 98, 99]⟩ := by decide
  rw [hm, show [(97 : Int), 98, 99].length = 3 from rfl] at hcv
  rw [show [(97 : Int), 98, 99].length = 3 from rfl] at ho ⊢
  have HB6 := hid (HB5.out.trans (hb6.mono (by omega)))
  have HF6 := hid (HF5.out.below hb6)
  have hs6 : b < w6.heap.size := HF6.out.lt
  clear ho hb6 hm
  go_wp2_with fail
  refine (synced_any HF6.out).mono ?_
  rintro e w7 ⟨rfl, rfl⟩
  go_wp2_with fail
  refine (room_any HF6.out).mono ?_
  rintro e w7 ⟨rfl, m, rfl⟩
  obtain ⟨i0, hi, hz0, hz1, hz2⟩ := info_parts info_u8
  obtain ⟨w7, hrun, hown, hgrow⟩ := run_make_full (P := Try.prog) (w6.drewN m) (w6.drewN m).heap.size 32 5 i0 (.int .u8 0) 1 Try.underlying32 hi hz0 hz1 .i64 .i64 7 (by rw [hz2]; decide) (by decide) (Nat.le_refl _)
  have ho7 : Ow (w6.drewN m).heap.size w7 (.slice (some ⟨w6.heap.size, 0, none⟩) 7 7) [0, 0, 0, 0, 0, 0, 0] := by
    have hm : (madeCells (Value.int .u8 0).cells (7 * 1)).toList = cs [0, 0, 0, 0, 0, 0, 0] := by kernel_rfl
    rw [hm] at hown
    exact hown
  have hb7 : Below w6.heap.size w6 w7 := World.grownBy.below' hgrow
  have HO7 := hid ho7
  have HB7 := hid hb7
  have hs7 : w6.heap.size ≤ w7.heap.size := hb7.size
  clear hown hgrow ho7 hb7 hz0 hz1 hz2 hi
  rw [show ((7 : Nat) : Int) = 7 from rfl] at hrun
  go_wp2_with fail
  refine (fappend_any (ys := [0, 0, 0, 0, 0, 0, 0]) (by omega) (HF6.out.below HB7.out) _ (HO7.out.bs (fun x hx => by simp at hx; omega))).mono ?_
  rintro e w8 ⟨he, hf⟩
  obtain rfl := he.out R4.out
  obtain ⟨v8, hf8, hx8⟩ := hf.out R4.out
  have HB8 := hid ((HB6.out.trans (HB7.out.mono (by omega))).trans ((HF6.out.below HB7.out).fr hx8 (by omega)))
  clear he hf hf8 hx8
  go_wp2
  go_ret
  exact ⟨rfl, by rw [HB.out]; exact HB8.out⟩
end Go.Proofs.Ytiimhenapfejmaa

/-
  That offshootref00.SameBytes tells whether two lists of bytes are one is proved here, for all slices that read as bytes.
-/
namespace Go.Proofs.Ytiimhenapfejmaa
open Go.RowKit
set_option linter.unusedVariables false
set_option maxRecDepth 100000

theorem take_step {xs ys : List Int} {k : Nat} (h1 : k < xs.length) (h2 : k < ys.length) (h : xs.take k = ys.take k) (he : xs.getD k 0 = ys.getD k 0) : xs.take (k + 1) = ys.take (k + 1) := by
  rw [List.take_succ_eq_append_getElem h1, List.take_succ_eq_append_getElem h2, h]
  simp [List.getD, h1, h2] at he
  rw [he]
theorem not_eq_of_at {xs ys : List Int} {k : Nat} (he : xs.getD k 0 ≠ ys.getD k 0) : xs ≠ ys := by
  intro e; exact he (by rw [e])

set_option maxHeartbeats 1000000 in
theorem same_any (a b : Value) (xs ys : List Int) (w : World) (h1 : Bs w a xs) (h2 : Bs w b ys) :
    Calls Try.prog 18 #[a, b] w fun e w' => e = .returned (.bool (decide (xs = ys))) ∧ ∃ n, w' = w.drewN n := by
  have l1 := h1.len
  have l2 := h2.len
  unfold maxLen at l1 l2
  by_cases hl : xs.length = ys.length
  · by_cases hz : xs.length = 0
    · have e1 : xs = [] := List.eq_nil_of_length_eq_zero hz
      have e2 : ys = [] := List.eq_nil_of_length_eq_zero (by omega)
      subst e1 e2
      obtain ⟨a1, c1, rfl, _⟩ := h1.inv_nil
      obtain ⟨a2, c2, rfl, _⟩ := h2.inv_nil
      clear h1 h2 l1 l2 hl hz
      go_enter Try.func18, Try.ntmps18
      go_wp2
      refine wp_loop_rounds 1 ?_
      rw [rounds_succ]
      go_wp2
      go_ret
      exact ⟨rfl, 0, rfl⟩
    · obtain ⟨b1, o1, c1, rfl, _, _, hc1⟩ := h1.inv (by omega)
      obtain ⟨b2, o2, c2, rfl, _, _, hc2⟩ := h2.inv (by omega)
      rw [← hl]
      obtain ⟨n, hn⟩ : ∃ n, xs.length = n := ⟨_, rfl⟩
      have HL : Hid (ys.length = n) := by rw [← hl]; exact hn
      have HN : Hid (xs.length = n) := hn
      rw [hn]
      rw [hn] at hz l1
      clear hn hl h1 h2
      have hnn : ((n : Int) != (n : Int)) = false := by simp
      go_enter Try.func18, Try.ntmps18
      go_wp2
      go_loopw [5] (fun i wr => ∃ k m : Nat, k ≤ n ∧ i = .int .i64 k ∧ wr = w.drewN m ∧ xs.take k = ys.take k) (fun i _ => n - (intOf i).toNat)
      case atStart => exact ⟨0, 0, Nat.zero_le _, rfl, rfl, by simp⟩
      case round =>
        obtain ⟨k, m, hk, rfl, rfl, ht⟩ := hrel
        have HT := hid ht
        clear ht
        by_cases hlt : k < n
        · have g1 := hc1 k (by have := HN.out; omega)
          have g2 := hc2 k (by have := HL.out; omega)
          clear hc1 hc2
          have b1' : (k : Int) < (n : Int) := by omega
          go_wp2
          go_quiet (fail)
          by_cases he : xs.getD k 0 = ys.getD k 0
          · have he' : (xs[k]?.getD 0 != ys[k]?.getD 0) = false := by simpa [List.getD] using he
            have HE := hid he
            clear he
            go_wp2
            go_roundw
            case rel => exact ⟨k + 1, _, by omega, by go_num, rfl, take_step (by have := HN.out; omega) (by have := HL.out; omega) HT.out HE.out⟩
            case measure => simp [intOf]; omega
          · have he' : (xs[k]?.getD 0 != ys[k]?.getD 0) = true := by simpa [List.getD] using he
            have HE := hid he
            clear he
            go_wp2
            go_ret
            exact ⟨by rw [decide_eq_false (not_eq_of_at HE.out)]; rfl, _, World.drewN_drewN _ _ _⟩
        · clear hc1 hc2
          go_wp2
          go_ret
          refine ⟨?_, _, rfl⟩
          have e1 : k = n := by omega
          have h3 := HT.out
          rw [List.take_of_length_le (by have := HN.out; omega), List.take_of_length_le (by have := HL.out; omega)] at h3
          rw [decide_eq_true h3]; rfl
  · have hne : ((xs.length : Int) != (ys.length : Int)) = true := by simp; omega
    obtain ⟨a1, c1, rfl, _⟩ := h1
    obtain ⟨a2, c2, rfl, _⟩ := h2
    go_enter Try.func18, Try.ntmps18
    go_wp2
    go_ret
    exact ⟨by rw [decide_eq_false (by intro e; exact hl (by rw [e]))]; rfl, 0, rfl⟩


theorem same_b (a b : Value) (xs ys : List Int) (w : World) (h1 : Bs w a xs) (h2 : Bs w b ys) :
    Calls Try.prog 18 #[a, b] w fun e w' => e = .returned (.bool (decide (xs = ys))) ∧ Below w.heap.size w w' :=
  (same_any a b xs ys w h1 h2).mono fun _ _ ⟨he, n, hw⟩ => ⟨he, by rw [hw]; exact bd w n⟩

end Go.Proofs.Ytiimhenapfejmaa

/-
  Rows of bytes in memory: 'Ls w v xss': the slice v reads as the lists of bytes xss; rows that came in, rows that a call made.
-/
namespace Go.Proofs.Ytiimhenapfejmaa
open Go.RowKit
set_option linter.unusedVariables false
set_option maxRecDepth 100000

def Ls (w : World) (v : Value) (xss : List (List Int)) : Prop :=
  ∃ a c, v = .slice a xss.length c ∧ xss.length ≤ c ∧ c ≤ maxLen ∧ (a = none → c = 0) ∧
    ∀ i, i < xss.length → ∃ b off u, a = some ⟨b, off, none⟩ ∧ w.cell? ⟨b, off + i, none⟩ = some u ∧ Bs w u (xss.getD i [])

theorem Ls.nil (w : World) : Ls w (.slice none 0 0) [] := ⟨none, 0, rfl, Nat.le_refl _, Nat.zero_le _, fun _ => rfl, fun i hi => absurd hi (Nat.not_lt_zero _)⟩
theorem Ls.form {w : World} {v : Value} {xs : List (List Int)} (h : Ls w v xs) : ∃ a c, v = .slice a xs.length c := by
  obtain ⟨a, c, e, _⟩ := h
  exact ⟨a, c, e⟩
theorem Ls.len {w : World} {v : Value} {xss : List (List Int)} (h : Ls w v xss) : xss.length ≤ maxLen := by
  obtain ⟨a, c, _, h2, h3, _⟩ := h
  exact Nat.le_trans h2 h3
theorem Ls.below {w w' : World} {v : Value} {xss : List (List Int)} (h : Ls w v xss) (hb : Below w.heap.size w w') : Ls w' v xss := by
  obtain ⟨a, c, h1, h2, h3, h4, h5⟩ := h
  refine ⟨a, c, h1, h2, h3, h4, fun i hi => ?_⟩
  obtain ⟨b, off, u, e1, e2, e3⟩ := h5 i hi
  exact ⟨b, off, u, e1, by rw [hb.cell (World.block_lt_of_cell? _ _ e2)]; exact e2, e3.below hb⟩
theorem Ls.drewN {w : World} {v : Value} {xss : List (List Int)} (h : Ls w v xss) (n : Nat) : Ls (w.drewN n) v xss := h
theorem Ls.inv_nil {w : World} {v : Value} (h : Ls w v []) : ∃ a c, v = .slice a 0 c ∧ c ≤ maxLen ∧ (a = none → c = 0) := by
  obtain ⟨a, c, h1, _, h3, h4, _⟩ := h
  exact ⟨a, c, h1, h3, h4⟩
theorem Ls.inv {w : World} {v : Value} {xss : List (List Int)} (h : Ls w v xss) (hx : 0 < xss.length) :
    ∃ b off c, v = .slice (some ⟨b, off, none⟩) xss.length c ∧ xss.length ≤ c ∧ c ≤ maxLen ∧ ∀ i, i < xss.length → ∃ u, w.cell? ⟨b, off + i, none⟩ = some u ∧ Bs w u (xss.getD i []) := by
  obtain ⟨a, c, h1, h2, h3, _, h5⟩ := h
  obtain ⟨b, off, u, e1, _⟩ := h5 0 hx
  refine ⟨b, off, c, by rw [h1, e1], h2, h3, fun i hi => ?_⟩
  obtain ⟨b', off', u', e2, e3, e4⟩ := h5 i hi
  rw [e1] at e2
  simp only [Option.some.injEq, Addr.mk.injEq, and_true] at e2
  obtain ⟨rfl, rfl⟩ := e2
  exact ⟨u', e3, e4⟩
theorem Ls.take {w : World} {a : Option Addr} {xss : List (List Int)} {n c : Nat} (h : Ls w (.slice a n c) xss) (l : Nat) (hl : l ≤ n) : Ls w (.slice a l c) (xss.take l) := by
  obtain ⟨a', c', h1, h2, h3, h4, h5⟩ := h
  simp only [Value.slice.injEq] at h1
  obtain ⟨rfl, rfl, rfl⟩ := h1
  have hlen : (xss.take l).length = l := by rw [List.length_take]; omega
  refine ⟨a, c, by rw [hlen], by omega, h3, h4, fun i hi => ?_⟩
  obtain ⟨b, off, u, e1, e2, e3⟩ := h5 i (by omega)
  refine ⟨b, off, u, e1, e2, ?_⟩
  rw [show (xss.take l).getD i [] = xss.getD i [] by simp [List.getD, show i < l by omega]]
  exact e3
theorem Ls.bytes {w : World} {v : Value} {xss : List (List Int)} (h : Ls w v xss) : ∀ l ∈ xss, ∀ x ∈ l, 0 ≤ x ∧ x < 256 := by
  intro l hl
  obtain ⟨i, hi, rfl⟩ := List.getElem_of_mem hl
  obtain ⟨a, c, _, _, _, _, h5⟩ := h
  obtain ⟨b, off, u, _, _, e3⟩ := h5 i hi
  have := e3.range
  simpa [List.getD, hi] using this

theorem weights_all_mem {H : Type} {P : Program} {e : TypeId} : ∀ {l : List (DataW H)} {d : DataW H}, d ∈ l → ∀ n ∈ d.weights P e, n ∈ DataW.weightsAll P e l
  | d0 :: r, d, h, n, hn => by
    simp only [DataW.weightsAll, List.mem_append]
    rcases List.mem_cons.1 h with rfl | h
    · exact Or.inl hn
    · exact Or.inr (weights_all_mem h n hn)

theorem cells_u8s : Try.prog.cellsOf 32 = 1 := by kernel_rfl
theorem cells_u8 : Try.prog.cellsOf 5 = 1 := by kernel_rfl
theorem bytes_u8 : Try.prog.bytesOf 5 = 1 := by kernel_rfl

/-- Rows of bytes that came in; each takes less than 2^47 bytes. -/
theorem Ls.open {H : Type} {enc : TypeId × Value → H} {W : World} {a : Option Addr} {len cap : Nat} {d : DataW H} {p : List MemPlace}
    (h : DataW.Trod enc Try.prog W 0 (fun _ => true) true 50 (.slice a len cap) d p) (hz : ∀ n ∈ d.weights Try.prog 50, n ≤ reachBytes) : ∃ xss, Ls W (.slice a len cap) xss ∧ ∀ l ∈ xss, l.length ≤ 140737488355328 := by
  obtain ⟨fuel, hf⟩ := h
  rcases Go.Deep.open_int_rows Try.underlying50 Try.underlying32 Try.underlying5 cells_u8s cells_u8 hf with ⟨hcs, _⟩ | ⟨x, l, c, A, L, C, Z, hcs, _, hl, hm, hd, hx⟩
  · simp [Value.cells] at hcs
    obtain ⟨rfl, rfl, rfl⟩ := hcs
    exact ⟨[], Ls.nil W, fun l hl => by cases hl⟩
  · simp [Value.cells] at hcs
    obtain ⟨rfl, rfl, rfl⟩ := hcs
    simp only [Prod.mk.injEq] at hd
    refine ⟨(List.range len).map fun r => (Z r).take (L r), ⟨some x, cap, by simp, by simpa using hl, hm, (fun e => by cases e), fun i hi => ?_⟩, fun l hl' => ?_⟩
    · simp at hi
      obtain ⟨g0, g1, g2, g3, g4, g5, g6⟩ := hx i (by omega)
      obtain ⟨z0, _⟩ := hx 0 (by omega)
      obtain ⟨b, off, spot⟩ := x
      have hs : spot = none := by simpa [Addr.add] using World.cell?_spot z0
      subst hs
      rw [Addr.add_lit] at g0
      refine ⟨b, off, _, rfl, g0, ?_⟩
      rw [show ((List.range len).map fun r => (Z r).take (L r)).getD i [] = (Z i).take (L i) by simp [List.getD, hi]]
      cases hA : A i with
      | none =>
        have h0 := g5 hA
        have hL0 : L i = 0 := by omega
        rw [hL0, h0, List.take_zero]
        exact Bs.nil W
      | some a' =>
        exact Bs.of_row g1 g2 g3 (fun j hj => (g6 a' hA).2 j (by rw [g3] at hj; exact hj)) g4
    · obtain ⟨r, hr, rfl⟩ := List.mem_map.1 hl'
      have hr' : r < len := List.mem_range.1 hr
      obtain ⟨g0, g1, g2, g3, g4, g5, g6⟩ := hx r (by omega)
      show ((Z r).take (L r)).length ≤ _
      rw [List.length_take]
      cases hA : A r with
      | none =>
        have h0 := g5 hA
        omega
      | some a' =>
        have hmem : (Go.Deep.intRow .u8 (A r) (L r) (Z r) : DataW H) ∈ (List.range len).map fun r => Go.Deep.intRow .u8 (A r) (L r) (Z r) := List.mem_map.2 ⟨r, hr, rfl⟩
        have hw : (Z r).length * 1 ∈ (Go.Deep.intRow .u8 (A r) (L r) (Z r) : DataW H).weights Try.prog 32 := by
          rw [hA]
          simp only [Go.Deep.intRow, DataW.weights, Try.underlying32]
          rw [bytes_u8]
          refine List.mem_cons.2 (Or.inl ?_)
          congr 1
          simp [Go.ChangeShapes.lits]
          omega
        have hle := hz _ (by
          rw [hd.1]
          simp only [DataW.weights, Try.underlying50]
          refine List.mem_cons.2 (Or.inr (List.mem_append.2 (Or.inl (weights_all_mem hmem _ hw)))))
        have : reachBytes < 2 ^ 47 := reachBytes_lt
        omega

end Go.Proofs.Ytiimhenapfejmaa

/-
  What offshootref00.Weigh returns is proved here: a number that is too great, if the rows weigh too much (rows of at most 2^47 bytes each).
-/
namespace Go.Proofs.Ytiimhenapfejmaa
open Go.RowKit
set_option linter.unusedVariables false
set_option maxRecDepth 100000

/-- What rows weigh. -/
def wgt : List (List Int) → Nat
  | [] => 0
  | l :: r => 1 + l.length + wgt r
theorem wgt_append (a b : List (List Int)) : wgt (a ++ b) = wgt a + wgt b := by
  induction a with
  | nil => simp [wgt]
  | cons l r ih => simp only [List.cons_append, wgt, ih]; omega
theorem wgt_step {xs : List (List Int)} {k : Nat} (h : k < xs.length) : wgt (xs.take (k + 1)) = wgt (xs.take k) + 1 + (xs.getD k []).length := by
  rw [List.take_succ_eq_append_getElem h, wgt_append]
  simp [wgt, List.getD, h]
  omega
theorem wgt_mem {xs : List (List Int)} {l : List Int} (h : l ∈ xs) : l.length < wgt xs := by
  induction xs with
  | nil => cases h
  | cons a r ih =>
    rcases List.mem_cons.1 h with rfl | h
    · simp only [wgt]; omega
    · have := ih h; simp only [wgt]; omega
theorem wgt_len (xs : List (List Int)) : xs.length ≤ wgt xs := by
  induction xs with
  | nil => simp [wgt]
  | cons a r ih => simp only [wgt, List.length_cons]; omega

set_option maxHeartbeats 1000000 in
theorem weigh_any (a : Value) (xs : List (List Int)) (most : Nat) (w : World) (h : Ls w a xs) (hx : ∀ l ∈ xs, l.length ≤ 140737488355328) (hm : most ≤ 140737488355328) :
    Calls Try.prog 28 #[a, .int .i64 most] w fun e w' => ∃ r : Int, e = .returned (.int .i64 r) ∧ w = w' ∧ (r ≤ most → r = wgt xs) := by
  have l1 := h.len
  unfold maxLen at l1
  by_cases hb : most < xs.length
  · obtain ⟨a1, c1, rfl, _⟩ := h
    have hb' : (most : Int) < (xs.length : Int) := by omega
    go_enter Try.func28, Try.ntmps28
    go_wp2
    go_ret
    exact ⟨(most : Int) + 1, rfl, rfl, by omega⟩
  · have hb' : ¬ (most : Int) < (xs.length : Int) := by omega
    by_cases hz : xs.length = 0
    · have e1 : xs = [] := List.eq_nil_of_length_eq_zero hz
      subst e1
      obtain ⟨a1, c1, rfl, _⟩ := h.inv_nil
      clear h l1 hz
      go_enter Try.func28, Try.ntmps28
      go_wp2
      refine wp_loop_rounds 1 ?_
      rw [rounds_succ]
      go_wp2
      go_ret
      exact ⟨0, rfl, rfl, fun _ => rfl⟩
    · obtain ⟨b1, o1, c1, rfl, _, _, hc1⟩ := h.inv (by omega)
      obtain ⟨n, hn⟩ : ∃ n, xs.length = n := ⟨_, rfl⟩
      have HN : Hid (xs.length = n) := hn
      rw [hn]
      rw [hn] at hz l1 hb hb' hc1
      have HX := hid hx
      have HC := hid hc1
      clear hn h hx hc1
      go_enter Try.func28, Try.ntmps28
      go_wp2
      go_loop [5, 6] (fun s i => ∃ k : Nat, k ≤ n ∧ i = .int .i64 k ∧ s = .int .i64 (wgt (xs.take k) : Nat) ∧ (wgt (xs.take k) ≤ most + 1 + 140737488355328)) (fun _ i => n - (intOf i).toNat)
      case atStart => exact ⟨0, Nat.zero_le _, rfl, rfl, by rw [List.take_zero]; exact Nat.zero_le _⟩
      case round =>
        obtain ⟨k, hk, rfl, rfl, hs⟩ := hrel
        obtain ⟨s, hs'⟩ : ∃ s, wgt (xs.take k) = s := ⟨_, rfl⟩
        rw [hs'] at hs ⊢
        by_cases hlt : k < n
        · have hlt' : (k : Int) < (n : Int) := by omega
          have hst := wgt_step (xs := xs) (k := k) (by rw [HN.out]; exact hlt)
          by_cases hle : s ≤ most
          · have hle' : (s : Int) ≤ (most : Int) := by omega
            obtain ⟨u, g1, s1⟩ := HC.out k hlt
            have f1 : ∃ a c, u = .slice a (xs.getD k []).length c := by
              obtain ⟨a, c, e, _⟩ := s1
              exact ⟨a, c, e⟩
            obtain ⟨a1, d1, rfl⟩ := f1
            have hlm : (xs.getD k []).length ≤ 140737488355328 := by
              have hk' : k < xs.length := by rw [HN.out]; exact hlt
              rw [List.getD_eq_getElem?_getD, List.getElem?_eq_getElem hk', Option.getD_some]
              exact HX.out _ (List.getElem_mem hk')
            obtain ⟨m, hm'⟩ : ∃ m, (xs.getD k []).length = m := ⟨_, rfl⟩
            rw [hm'] at hlm hst g1
            rw [hs'] at hst
            have HST := hid hst
            clear hst hm' s1 hs'
            go_wp2
            go_round
            case rel => exact ⟨k + 1, by omega, by go_num, by rw [HST.out]; go_num, by rw [HST.out]; omega⟩
            case measure => simp [intOf]; omega
          · have hle' : ¬ (s : Int) ≤ (most : Int) := by omega
            clear hst hs'
            go_wp2
            go_ret
            exact ⟨(s : Int), rfl, rfl, by omega⟩
        · have hlt' : decide ((k : Int) < (n : Int)) = false := by simp; omega
          have e1 : k = n := by omega
          rw [List.take_of_length_le (by rw [HN.out]; omega)] at hs'
          have HS := hid hs'
          clear hs' e1
          go_wp2
          go_ret
          exact ⟨(s : Int), rfl, rfl, fun _ => by rw [HS.out]⟩

end Go.Proofs.Ytiimhenapfejmaa

/-
  That FileWhole returns true is proved here, for all rows of bytes (of less than 2^47 each).
-/
namespace Go.Proofs.Ytiimhenapfejmaa
open Go.RowKit
set_option linter.unusedVariables false
set_option maxRecDepth 100000

theorem join_step {xss : List (List Int)} {k : Nat} (h : k < xss.length) : (xss.take (k + 1)).flatten = (xss.take k).flatten ++ xss.getD k [] := by
  rw [List.take_succ_eq_append_getElem h, List.flatten_append]
  simp [List.getD, h]
theorem join_len (xss : List (List Int)) : xss.flatten.length ≤ wgt xss := by
  induction xss with
  | nil => simp
  | cons a r ih => simp only [List.flatten_cons, List.length_append, wgt]; omega
theorem wgt_take (xss : List (List Int)) (k : Nat) : wgt (xss.take k) ≤ wgt xss := by
  have := wgt_append (xss.take k) (xss.drop k)
  rw [List.take_append_drop] at this
  omega

set_option maxHeartbeats 4000000 in
theorem whole_walk (v : Value) (xss : List (List Int)) (w : World) (h1 : Ls w v xss ∧ ∀ l ∈ xss, l.length ≤ 140737488355328) :
    Calls Try.prog 6 #[v] w fun e w' => e = .returned (.bool true) ∧ Below w.heap.size w w' := by
  obtain ⟨hd, hx⟩ := h1
  have l1 := hd.len
  unfold maxLen at l1
  have HD := hid hd
  have HX := hid hx
  obtain ⟨va, vc, rfl⟩ := hd.form
  obtain ⟨N, hN⟩ : ∃ N, xss.length = N := ⟨_, rfl⟩
  have HN := hid hN
  rw [hN] at HD l1 ⊢
  clear hd hx hN
  go_enter Try.func6, Try.ntmps6
  go_wp2_with fail
  refine (alive_any w).mono ?_
  rintro e w1 ⟨rfl, b1⟩
  have B1 := hid b1
  clear b1
  go_wp2_with fail
  refine (weigh_any _ xss 20000 w1 (HD.out.below B1.out) HX.out (by decide)).mono ?_
  rintro e w2 ⟨r, rfl, rfl, hr⟩
  by_cases hg : (20000 : Int) < r
  · clear hr
    go_wp2
    go_ret
    exact ⟨rfl, B1.out⟩
  · have hw : wgt xss ≤ 20000 := by have := hr (by omega); omega
    have HW := hid hw
    clear hr hw
    go_wp2_with fail
    refine (new_ok 1048576 (by decide)).mono ?_
    rintro e w3 ⟨rfl, b3, v3, f3⟩
    obtain ⟨b, hb⟩ : ∃ b, w1.heap.size = b := ⟨_, rfl⟩
    rw [hb] at b3 f3 ⊢
    have hwb : w.heap.size ≤ b := by rw [← hb]; exact B1.out.size
    have HB := hid hb
    have B3 := hid b3
    have F3 := hid f3
    have hb3 : b < w3.heap.size := f3.lt
    have O3 : Hid (Ow w3.heap.size (w3.alloc (.cells #[] 5)) (.slice (some ⟨w3.heap.size, 0, none⟩) 0 0) []) := World.ownsRow_made w3 #[] 0 (Nat.le_refl _) (Nat.zero_le _) rfl
    clear hb b3 f3
    go_wp2
    go_loopw [5, 6] (fun s i wr => ∃ (k n : Nat) (v' : Value) (ua : Option Addr) (uc : Nat), k ≤ N ∧ i = .int .i64 k ∧ s = .slice ua (xss.take k).flatten.length uc ∧ Fi b wr b v' (xss.take k).flatten n 1048576 ∧ Ow b wr s (xss.take k).flatten ∧ (∀ j, s.ownBlock = some j → v'.ownBlock ≠ some j) ∧ Below b w1 wr) (fun _ i _ => N - (intOf i).toNat)
    case atStart =>
      refine ⟨0, 0, v3, _, _, Nat.zero_le _, rfl, rfl, F3.out.below (ba w3 _), O3.out.mono (by omega), ?_, B3.out.trans ((ba w3 _).mono (by omega))⟩
      intro j hj e
      simp [Value.ownBlock] at hj
      have := (F3.out.own.lt j e).2
      omega
    case round =>
      obtain ⟨k, n, v', ua, uc, hk, rfl, rfl, f, o, hne, bw⟩ := hrel
      have hbw : b < wr.heap.size := f.lt
      have hjl : (xss.take k).flatten.length ≤ 20000 := Nat.le_trans (join_len _) (Nat.le_trans (wgt_take xss k) HW.out)
      obtain ⟨xs, hxs⟩ : ∃ xs, (xss.take k).flatten = xs := ⟨_, rfl⟩
      rw [hxs] at f o hjl hne ⊢
      obtain ⟨M, hM⟩ : ∃ M, xs.length = M := ⟨_, rfl⟩
      have HM := hid hM
      rw [hM] at hjl o hne ⊢
      have HXS := hid hxs
      have F := hid f
      have O := hid o
      have NE := hid hne
      have BW := hid bw
      by_cases hlt : k < N
      · have hlt' : (k : Int) < (N : Int) := by omega
        obtain ⟨b0, off, c0, e0, -, -, hc⟩ := HD.out.inv (by rw [HN.out]; omega)
        rw [HN.out] at hc
        simp only [Value.slice.injEq] at e0
        obtain ⟨rfl, -, rfl⟩ := e0
        obtain ⟨u, g0w, g1w⟩ := hc k hlt
        have G0 := hid g0w
        have GB := World.block_lt_of_cell? _ _ g0w
        have g0 : wr.cell? ⟨b0, off + k, none⟩ = some u := by rw [(B1.out.trans (BW.out.mono hwb)).cell GB]; exact g0w
        have g1 := g1w.below (B1.out.trans (BW.out.mono hwb))
        have hst := join_step (xss := xss) (k := k) (by rw [HN.out]; exact hlt)
        have hlk : (xss.take (k + 1)).flatten.length ≤ 20000 := Nat.le_trans (join_len _) (Nat.le_trans (wgt_take xss (k + 1)) HW.out)
        rw [hst, hxs] at hlk
        rw [hxs] at hst
        obtain ⟨ys, hys⟩ : ∃ ys, xss.getD k [] = ys := ⟨_, rfl⟩
        rw [hys] at g1 g1w hst hlk
        have G1W := hid g1w
        rw [List.length_append, hM] at hlk
        have HST := hid hst
        have G1 := hid g1
        obtain ⟨wa, wc, rfl⟩ := g1.form
        have HR : Hid (appS 1048576 ys xs n = (0, xs ++ ys, n)) := if_pos (by rw [HM.out]; omega)
        clear f o hne bw hM hxs hc g1 g0w g1w hst hys
        go_wp2_with fail
        refine (fappend_any (by omega) F.out _ ys G1.out).mono ?_
        rintro e w4 ⟨he, hf⟩
        obtain rfl := he.out HR.out
        obtain ⟨v4, f4, x4⟩ := hf.out HR.out
        have hb4 : b < w4.heap.size := f4.lt
        have BW4 := hid (BW.out.trans (F.out.fr x4 (by omega)))
        have F4 := hid f4
        have O4 : Hid (Ow b w4 (.slice ua M uc) xs) := O.out.of_block (fun i hi => x4.block (O.out.lt i hi).2 (fun e => by subst e; exact O.out.far F.out.1 (by decide) hi) (NE.out i hi))
        have NE4 : Hid (∀ j, (Value.slice ua M uc).ownBlock = some j → v4.ownBlock ≠ some j) := fun j hj e => by
          rcases x4.2 j e with h | h
          · exact NE.out j hj h
          · have := (O.out.lt j hj).2; omega
        clear he hf f4 x4 F O NE BW
        by_cases ht : (bits BinOp.and IntKind.i64 (k : Int) 1 == 0) = true
        · have ht' : (bits BinOp.and IntKind.i64 (k : Int) 1 == 0) = true := ht
          clear ht
          go_wp2_with fail
          refine (sync_any F4.out).mono ?_
          rintro e w5 ⟨rfl, f5, x5⟩
          have hb5 : b < w5.heap.size := f5.lt
          have BW5 := hid (BW4.out.trans (F4.out.fr x5 (by omega)))
          have F5 := hid f5
          have O5 : Hid (Ow b w5 (.slice ua M uc) xs) := O4.out.of_block (fun i hi => x5.block (O4.out.lt i hi).2 (fun e => by subst e; exact O4.out.far F4.out.1 (by decide) hi) (NE4.out i hi))
          have NE5 : Hid (∀ j, (Value.slice ua M uc).ownBlock = some j → v4.ownBlock ≠ some j) := NE4.out
          clear f5 x5 F4 O4 NE4 BW4
          have g5 : w5.cell? ⟨b0, off + k, none⟩ = some (.slice wa ys.length wc) := by rw [(B1.out.trans (BW5.out.mono hwb)).cell GB]; exact G0.out
          have G5 : Hid (Bs w5 (.slice wa ys.length wc) ys) := G1W.out.below (B1.out.trans (BW5.out.mono hwb))
          go_wp2_with (at_builtin; refine wpList_append_bs rfl (.tmp 41) (.tmp 45) rfl b (.slice ua M uc) M xs rfl ?c0 _ ys rfl ?c1 ?c2 ?c3 ?_)
          case c0 => have := O5.out; rw [Ow, HM.out] at this; exact this
          case c1 => exact G5.out
          case c2 => omega
          case c3 => omega
          intro v6 w6 hown hgrow hv
          have hO : Ow b w6 v6 (xs ++ ys) := by rw [Ow, List.length_append, HM.out]; simpa [cs] using hown
          have O6 := hid hO
          have F6 : Hid (Fi b w6 b v4 (xs ++ ys) (xs ++ ys).length 1048576) := F5.out.of_block (fun i hi => hgrow.block i (by
            rcases hi with rfl | hi
            · exact F5.out.lt
            · exact (F5.out.own.lt i hi).2) (fun e => by
            rcases hi with rfl | hi
            · exact O5.out.far F5.out.1 (by decide) e.symm
            · exact NE5.out i e.symm hi))
          have NE6 : Hid (∀ j, v6.ownBlock = some j → v4.ownBlock ≠ some j) := fun j hj e => by
            rcases hv with h | h
            · exact NE5.out j (by rw [← h]; exact hj) e
            · rw [h] at hj; simp at hj; have := (F5.out.own.lt j e).2; omega
          have BW6 : Hid (Below b w1 w6) := BW5.out.grown hgrow (by have := hb5; omega) (fun j hj => (O5.out.lt j hj).1)
          obtain ⟨a6, c6, rfl, -⟩ := hO.form
          clear hown hgrow hv hO
          go_wp2
          go_roundw
          case rel =>
            refine ⟨k + 1, (xs ++ ys).length, v4, a6, c6, by omega, by go_num, ?_, ?_, ?_, ?_, BW6.out⟩
            · rw [HST.out]
            · rw [HST.out]; exact F6.out
            · rw [HST.out]; exact O6.out
            · exact NE6.out
          case measure => simp [intOf]; omega
        · have ht' : (bits BinOp.and IntKind.i64 (k : Int) 1 == 0) = false := by simpa using ht
          clear ht
          have g5 : w4.cell? ⟨b0, off + k, none⟩ = some (.slice wa ys.length wc) := by rw [(B1.out.trans (BW4.out.mono hwb)).cell GB]; exact G0.out
          have G5 : Hid (Bs w4 (.slice wa ys.length wc) ys) := G1W.out.below (B1.out.trans (BW4.out.mono hwb))
          go_wp2_with (at_builtin; refine wpList_append_bs rfl (.tmp 41) (.tmp 45) rfl b (.slice ua M uc) M xs rfl ?c0 _ ys rfl ?c1 ?c2 ?c3 ?_)
          case c0 => have := O4.out; rw [Ow, HM.out] at this; exact this
          case c1 => exact G5.out
          case c2 => omega
          case c3 => omega
          intro v6 w6 hown hgrow hv
          have hO : Ow b w6 v6 (xs ++ ys) := by rw [Ow, List.length_append, HM.out]; simpa [cs] using hown
          have O6 := hid hO
          have F6 : Hid (Fi b w6 b v4 (xs ++ ys) n 1048576) := F4.out.of_block (fun i hi => hgrow.block i (by
            rcases hi with rfl | hi
            · exact F4.out.lt
            · exact (F4.out.own.lt i hi).2) (fun e => by
            rcases hi with rfl | hi
            · exact O4.out.far F4.out.1 (by decide) e.symm
            · exact NE4.out i e.symm hi))
          have NE6 : Hid (∀ j, v6.ownBlock = some j → v4.ownBlock ≠ some j) := fun j hj e => by
            rcases hv with h | h
            · exact NE4.out j (by rw [← h]; exact hj) e
            · rw [h] at hj; simp at hj; have := (F4.out.own.lt j e).2; omega
          have BW6 : Hid (Below b w1 w6) := BW4.out.grown hgrow (by have := hb4; omega) (fun j hj => (O4.out.lt j hj).1)
          obtain ⟨a6, c6, rfl, -⟩ := hO.form
          clear hown hgrow hv hO
          go_wp2
          go_roundw
          case rel =>
            refine ⟨k + 1, n, v4, a6, c6, by omega, by go_num, ?_, ?_, ?_, ?_, BW6.out⟩
            · rw [HST.out]
            · rw [HST.out]; exact F6.out
            · rw [HST.out]; exact O6.out
            · exact NE6.out
          case measure => simp [intOf]; omega
      · have e1 : k = N := by omega
        have hall : xss.flatten = xs := by rw [← hxs, e1, List.take_of_length_le (by rw [HN.out]; exact Nat.le_refl _)]
        clear f o hne bw hM hxs hall
        go_wp2_with fail
        refine (bytes_any F.out).mono ?_
        rintro e w5 ⟨v5, rfl, o5, b5⟩
        have O5 := hid (o5.bs F.out.byt)
        have P5 : Hid (Bs w5 (.slice ua M uc) xs) := (O.out.bs F.out.byt).below b5
        have F5 := hid (F.out.below b5)
        have BW5 := hid (BW.out.trans (b5.mono (by omega)))
        clear o5 b5
        go_wp2_with fail
        refine (same_any _ _ _ _ w5 O5.out P5.out).mono ?_
        rintro e w6 ⟨rfl, m, rfl⟩
        rw [decide_eq_true rfl]
        go_wp2_with fail
        refine (size_any (F5.out.drewN m)).mono ?_
        rintro e w7 ⟨rfl, rfl⟩
        rw [HM.out]
        go_wp2
        go_ret
        exact ⟨rfl, B1.out.trans ((below_drewN BW5.out m).mono hwb)⟩
end Go.Proofs.Ytiimhenapfejmaa
