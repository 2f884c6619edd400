/-
  What Needs answers is proved here, for all ops of at most 100,000 cuts.
-/
import Derived.Test.YtaojeanoojnknaaDoorPart11
import Derived.Test.YtaojeanoojnknaaDoorPart18
import Derived.Test.YtaojeanoojnknaaDoorPart13
namespace Go.Proofs.YtaojeanoojnknaaDoor
open Go.RowKit
set_option linter.unusedVariables false
set_option maxRecDepth 100000

def fiveO (o : Opn) : List (Int × Int) := [(o.br, o.bm), (o.pr, o.pm), (o.sr, o.sm), (o.lr, o.lm), (o.gr, o.gm)]
def cutsN (l : List Ct) : List (Int × Int) := l.map (fun c => (c.r, c.n))
def needsO (o : Opn) : List (Int × Int) := (fiveO o ++ cutsN o.cuts).foldl noteL []
theorem fold_len (xs : List (Int × Int)) : ∀ l, (xs.foldl noteL l).length ≤ l.length + xs.length := by
  induction xs with
  | nil => intro l; simp
  | cons x xs ih =>
    intro l
    rw [List.foldl_cons, List.length_cons]
    have := ih (noteL l x)
    have := noteL_len l x
    omega
theorem idx0 (x0 x1 x2 x3 x4 x5 x6 x7 x8 x9 : Int) (w : World) : (Instr.index 106 (.agg #[.int .i64 x0, .int .i64 x1, .int .i64 x2, .int .i64 x3, .int .i64 x4, .int .i64 x5, .int .i64 x6, .int .i64 x7, .int .i64 x8, .int .i64 x9]) (.int .i64 0)).run Tryd.prog w = .ok (idv x0 x1) w := by kernel_rfl
theorem idx1 (x0 x1 x2 x3 x4 x5 x6 x7 x8 x9 : Int) (w : World) : (Instr.index 106 (.agg #[.int .i64 x0, .int .i64 x1, .int .i64 x2, .int .i64 x3, .int .i64 x4, .int .i64 x5, .int .i64 x6, .int .i64 x7, .int .i64 x8, .int .i64 x9]) (.int .i64 1)).run Tryd.prog w = .ok (idv x2 x3) w := by kernel_rfl
theorem idx2 (x0 x1 x2 x3 x4 x5 x6 x7 x8 x9 : Int) (w : World) : (Instr.index 106 (.agg #[.int .i64 x0, .int .i64 x1, .int .i64 x2, .int .i64 x3, .int .i64 x4, .int .i64 x5, .int .i64 x6, .int .i64 x7, .int .i64 x8, .int .i64 x9]) (.int .i64 2)).run Tryd.prog w = .ok (idv x4 x5) w := by kernel_rfl
theorem idx3 (x0 x1 x2 x3 x4 x5 x6 x7 x8 x9 : Int) (w : World) : (Instr.index 106 (.agg #[.int .i64 x0, .int .i64 x1, .int .i64 x2, .int .i64 x3, .int .i64 x4, .int .i64 x5, .int .i64 x6, .int .i64 x7, .int .i64 x8, .int .i64 x9]) (.int .i64 3)).run Tryd.prog w = .ok (idv x6 x7) w := by kernel_rfl
theorem idx4 (x0 x1 x2 x3 x4 x5 x6 x7 x8 x9 : Int) (w : World) : (Instr.index 106 (.agg #[.int .i64 x0, .int .i64 x1, .int .i64 x2, .int .i64 x3, .int .i64 x4, .int .i64 x5, .int .i64 x6, .int .i64 x7, .int .i64 x8, .int .i64 x9]) (.int .i64 4)).run Tryd.prog w = .ok (idv x8 x9) w := by kernel_rfl
theorem wpList_idx {ops : Array Oper} {rest : List Oper} {p : Oper} {a : Act} {w : World} {Q : Exit → Act → World → Prop} (hgd : p.guard = none) (x y : Operand) (ho : p.op = .index 106 x y) (X Y V : Value) (hx : a.eval x = X) (hy : a.eval y = Y)
    (hr : (Instr.index 106 X Y).run Tryd.prog w = .ok V w) (hk : wpList Tryd.prog ops Q rest (a.put p.dst V) w) : wpList Tryd.prog ops Q (p :: rest) a w := by
  refine wpList_plain hgd fun K hK => ?_
  unfold Oper.wp execOp
  simp only [ho, hx, hy, Sem.run_bind, hr, Result.andThen_ok, Sem.run_pure]
  exact hK _ _ hk

/-- As it was below B, which is there. -/
structure Up (B : Nat) (w w' : World) : Prop where
  b : Below B w w'
  le : B ≤ w.heap.size
theorem Up.size6 {B : Nat} {w w' : World} (h : Up B w w') : B ≤ w'.heap.size := Nat.le_trans h.le h.b.size

set_option maxHeartbeats 8000000 in
theorem needs_box (A : Value) (o : Opn) (v : Value) (hA : A = opv o v) (w : World) (hC : Cs w v o.cuts) (hl : o.cuts.length ≤ 100000) :
    Calls Tryd.prog 41 #[A] w fun e w' => ∃ u, e = .returned u ∧ Ns w' u (needsO o) ∧ Below w.heap.size w w' := by
  have HAA := hid hA
  have HC := hid hC
  clear hA hC
  have hmm : ∀ W : World, (Instr.makeMap 102 none).run Tryd.prog W = .ok (.map (some W.heap.size)) (W.alloc (.map #[] 0)) := fun _ => rfl
  have hmf : ∀ (fn : Fn) (first cap : Array Value) (W : World), (Instr.makeFunc fn first cap).run Tryd.prog W = .ok (.func fn first cap) W := fun _ _ _ _ => rfl
  go_enter Tryd.func41, Tryd.ntmps41
  go_upto_region 4 with (refine wpList_box_op rfl _ rfl A rfl o v HAA.out ?_; intro w1 ho1 hb1 hl1; have HO1 := hid ho1; have HB1 := hid hb1; have HC1 := hid (HC.out.below hb1); clear ho1 hb1)
  have r0 := heap_alloc_new w1 (.cells #[.slice none 0 0] 61)
  have hB4 : Below w1.heap.size w1 (((w1.alloc (.cells #[.slice none 0 0] 61)).alloc (.map #[] 0)).alloc (.cells #[.map (some (w1.heap.size + 1))] 102)) := bt (bt (ba _ _) (ba _ _)) (ba _ _)
  have hN4 : Nt w1.heap.size (((w1.alloc (.cells #[.slice none 0 0] 61)).alloc (.map #[] 0)).alloc (.cells #[.map (some (w1.heap.size + 1))] 102)) (w1.heap.size + 1 + 1) (w1.heap.size + 1) w1.heap.size (.slice none 0 0) [] := by
    have s1 : (w1.alloc (.cells #[.slice none 0 0] 61)).heap.size = w1.heap.size + 1 := by simp
    have s2 : ((w1.alloc (.cells #[.slice none 0 0] 61)).alloc (.map #[] 0)).heap.size = w1.heap.size + 1 + 1 := by simp
    refine ⟨?_, ⟨#[], 0, ?_, rfl⟩, ?_, World.ownsRow_nil _ _ _ _, by omega, by omega, by omega⟩
    · have := heap_alloc_new ((w1.alloc (.cells #[.slice none 0 0] 61)).alloc (.map #[] 0)) (.cells #[.map (some (w1.heap.size + 1))] 102)
      rw [s2] at this
      exact this
    · have := heap_alloc_new (w1.alloc (.cells #[.slice none 0 0] 61)) (.map #[] 0)
      rw [s1] at this
      rw [Below.heap_alloc _ _ _ (by rw [s2]; omega)]
      exact this
    · rw [Below.heap_alloc _ _ _ (by rw [s2]; omega), Below.heap_alloc _ _ _ (by rw [s1]; omega)]
      exact r0
  obtain ⟨w4, hw4⟩ : ∃ w4, (((w1.alloc (.cells #[.slice none 0 0] 61)).alloc (.map #[] 0)).alloc (.cells #[.map (some (w1.heap.size + 1))] 102)) = w4 := ⟨_, rfl⟩
  rw [hw4] at hB4 hN4 ⊢
  have HB4 := hid hB4
  have HN4 := hid hN4
  have HO4 := hid (HO1.out.below hB4)
  have HC4 := hid (HC1.out.below hB4)
  have c4 := HO4.out.cells.c4
  have c5 := HO4.out.cells.c5
  have c6 := HO4.out.cells.c6
  have c7 := HO4.out.cells.c7
  have c9 := HO4.out.cells.c9
  have c10 := HO4.out.cells.c10
  have c11 := HO4.out.cells.c11
  have c12 := HO4.out.cells.c12
  have c14 := HO4.out.cells.c14
  have c15 := HO4.out.cells.c15
  clear hB4 hN4 hw4 r0
  go_wp2
  go_loopw [25] (fun i wr => ∃ (k : Nat) (u : Value), k ≤ 5 ∧ i = .int .i64 k ∧ Nt w1.heap.size wr (w1.heap.size + 1 + 1) (w1.heap.size + 1) w1.heap.size u (((fiveO o).take k).foldl noteL []) ∧ Up w1.heap.size w4 wr) (fun i _ => 5 - (intOf i).toNat)
  case atStart => exact ⟨0, _, Nat.zero_le _, rfl, HN4.out, ⟨Below.refl _ _, HB4.out.size⟩⟩
  case round =>
    obtain ⟨k, u, hk, rfl, hnk, hbk⟩ := hrel
    have HNK := hid hnk
    have HBK := hid hbk
    clear hnk hbk HN4 c4 c5 c6 c7 c9 c10 c11 c12 c14 c15
    by_cases hlt : k < 5
    · rcases (by omega : k = 0 ∨ k = 1 ∨ k = 2 ∨ k = 3 ∨ k = 4) with rfl | rfl | rfl | rfl | rfl
      all_goals clear hlt hk
      · have HA6 := hid (ba wr (ido 38 o.br o.bm))
        have HI := hid (note_any w1.heap.size (w1.heap.size + 1 + 1) (w1.heap.size + 1) w1.heap.size u _ o.br o.bm _ (HNK.out.below HA6.out) (Nat.le_trans HBK.out.size6 HA6.out.size) (Nat.le_trans (fold_len _ _) (by simp [fiveO])))
        go_wp2_with (refine wpList_idx rfl _ _ rfl _ _ _ rfl rfl (idx0 _ _ _ _ _ _ _ _ _ _ _) ?_)
        refine HI.out.mono ?_
        rintro e w7 ⟨rfl, ⟨u7, hn7⟩, hb7⟩
        have HN7 := hid hn7
        have HB7 := hid hb7
        clear hn7 hb7 HI
        go_wp2
        go_roundw
        case rel => exact ⟨1, u7, by omega, rfl, HN7.out, ⟨(HBK.out.b.trans (HA6.out.mono HBK.out.size6)).trans HB7.out, HBK.out.le⟩⟩
        case measure => simp [intOf]
      · have HA6 := hid (ba wr (ido 38 o.pr o.pm))
        have HI := hid (note_any w1.heap.size (w1.heap.size + 1 + 1) (w1.heap.size + 1) w1.heap.size u _ o.pr o.pm _ (HNK.out.below HA6.out) (Nat.le_trans HBK.out.size6 HA6.out.size) (Nat.le_trans (fold_len _ _) (by simp [fiveO])))
        go_wp2_with (refine wpList_idx rfl _ _ rfl _ _ _ rfl rfl (idx1 _ _ _ _ _ _ _ _ _ _ _) ?_)
        refine HI.out.mono ?_
        rintro e w7 ⟨rfl, ⟨u7, hn7⟩, hb7⟩
        have HN7 := hid hn7
        have HB7 := hid hb7
        clear hn7 hb7 HI
        go_wp2
        go_roundw
        case rel => exact ⟨2, u7, by omega, rfl, HN7.out, ⟨(HBK.out.b.trans (HA6.out.mono HBK.out.size6)).trans HB7.out, HBK.out.le⟩⟩
        case measure => simp [intOf]
      · have HA6 := hid (ba wr (ido 38 o.sr o.sm))
        have HI := hid (note_any w1.heap.size (w1.heap.size + 1 + 1) (w1.heap.size + 1) w1.heap.size u _ o.sr o.sm _ (HNK.out.below HA6.out) (Nat.le_trans HBK.out.size6 HA6.out.size) (Nat.le_trans (fold_len _ _) (by simp [fiveO])))
        go_wp2_with (refine wpList_idx rfl _ _ rfl _ _ _ rfl rfl (idx2 _ _ _ _ _ _ _ _ _ _ _) ?_)
        refine HI.out.mono ?_
        rintro e w7 ⟨rfl, ⟨u7, hn7⟩, hb7⟩
        have HN7 := hid hn7
        have HB7 := hid hb7
        clear hn7 hb7 HI
        go_wp2
        go_roundw
        case rel => exact ⟨3, u7, by omega, rfl, HN7.out, ⟨(HBK.out.b.trans (HA6.out.mono HBK.out.size6)).trans HB7.out, HBK.out.le⟩⟩
        case measure => simp [intOf]
      · have HA6 := hid (ba wr (ido 38 o.lr o.lm))
        have HI := hid (note_any w1.heap.size (w1.heap.size + 1 + 1) (w1.heap.size + 1) w1.heap.size u _ o.lr o.lm _ (HNK.out.below HA6.out) (Nat.le_trans HBK.out.size6 HA6.out.size) (Nat.le_trans (fold_len _ _) (by simp [fiveO])))
        go_wp2_with (refine wpList_idx rfl _ _ rfl _ _ _ rfl rfl (idx3 _ _ _ _ _ _ _ _ _ _ _) ?_)
        refine HI.out.mono ?_
        rintro e w7 ⟨rfl, ⟨u7, hn7⟩, hb7⟩
        have HN7 := hid hn7
        have HB7 := hid hb7
        clear hn7 hb7 HI
        go_wp2
        go_roundw
        case rel => exact ⟨4, u7, by omega, rfl, HN7.out, ⟨(HBK.out.b.trans (HA6.out.mono HBK.out.size6)).trans HB7.out, HBK.out.le⟩⟩
        case measure => simp [intOf]
      · have HA6 := hid (ba wr (ido 38 o.gr o.gm))
        have HI := hid (note_any w1.heap.size (w1.heap.size + 1 + 1) (w1.heap.size + 1) w1.heap.size u _ o.gr o.gm _ (HNK.out.below HA6.out) (Nat.le_trans HBK.out.size6 HA6.out.size) (Nat.le_trans (fold_len _ _) (by simp [fiveO])))
        go_wp2_with (refine wpList_idx rfl _ _ rfl _ _ _ rfl rfl (idx4 _ _ _ _ _ _ _ _ _ _ _) ?_)
        refine HI.out.mono ?_
        rintro e w7 ⟨rfl, ⟨u7, hn7⟩, hb7⟩
        have HN7 := hid hn7
        have HB7 := hid hb7
        clear hn7 hb7 HI
        go_wp2
        go_roundw
        case rel => exact ⟨5, u7, by omega, rfl, HN7.out, ⟨(HBK.out.b.trans (HA6.out.mono HBK.out.size6)).trans HB7.out, HBK.out.le⟩⟩
        case measure => simp [intOf]
    · obtain rfl : k = 5 := by omega
      rw [show ((5 : Nat) : Int) = 5 from rfl]
      have hOr : Ob wr w.heap.size o v := by unfold Ob; rw [HBK.out.b.block _ hl1]; exact HO4.out
      have c18 := hOr.cells.c18
      have hvB : 0 < o.cuts.length → ∀ j, v.ownBlock = some j → j < w1.heap.size := fun h j hj => by have := HC.out.block h j hj; omega
      have HCr := hid (HC4.out.old HBK.out.b hvB)
      have HVB := hid hvB
      obtain ⟨va, vc, hv, hvl, hvm⟩ := HC.out.form
      obtain ⟨n, hn⟩ : ∃ n, o.cuts.length = n := ⟨_, rfl⟩
      have HN := hid hn
      rw [hn] at hv hvl hl
      rw [hv] at c18
      have HV := hid hv
      unfold maxLen at hvm
      clear hOr hvB hn hv
      go_wp2
      go_loopw [35] (fun i wr => ∃ (k : Nat) (u : Value), k ≤ n ∧ i = .int .i64 k ∧ Nt w1.heap.size wr (w1.heap.size + 1 + 1) (w1.heap.size + 1) w1.heap.size u ((fiveO o ++ cutsN (o.cuts.take k)).foldl noteL []) ∧ Up w1.heap.size w4 wr) (fun i _ => n - (intOf i).toNat)
      case atStart => exact ⟨0, u, Nat.zero_le _, rfl, by simpa [cutsN, fiveO] using HNK.out, HBK.out⟩
      case round =>
        obtain ⟨k, u8, hk8, rfl, hn8, hb8⟩ := hrel
        have HN8 := hid hn8
        have HB8 := hid hb8
        clear hn8 hb8 HNK HBK HCr
        by_cases hlt : k < n
        · have hkl : k < o.cuts.length := by rw [HN.out]; exact hlt
          have hCw := HC4.out.old HB8.out.b HVB.out
          obtain ⟨gb, off, gc, hgv, _, _, _, hcell⟩ := hCw.inv (by omega)
          rw [HV.out, HN.out] at hgv
          simp only [Value.slice.injEq] at hgv
          obtain ⟨rfl, -, rfl⟩ := hgv
          obtain ⟨x, hx⟩ : ∃ x, o.cuts[k] = x := ⟨_, rfl⟩
          have g := hcell k hkl
          rw [hx] at g
          obtain ⟨g0, g1, g2, g3⟩ := g
          have HX := hid hx
          have HA9 := hid (ba wr (.cells #[.int .i64 x.r, .int .i64 x.n, .int .i64 x.f, .int .i64 x.t] 86))
          have hle : ((fiveO o ++ cutsN (o.cuts.take k)).foldl noteL []).length ≤ 1000000 := by
            refine Nat.le_trans (fold_len _ _) ?_
            have : (cutsN (o.cuts.take k)).length ≤ n := by simp [cutsN]; omega
            simp [fiveO]
            omega
          have HI := hid (note_any w1.heap.size (w1.heap.size + 1 + 1) (w1.heap.size + 1) w1.heap.size u8 _ x.r x.n _ (HN8.out.below HA9.out) (Nat.le_trans HB8.out.size6 HA9.out.size) hle)
          have b1' : (k : Int) < (n : Int) := by omega
          clear hcell hx hle hCw
          go_wp2_with fail
          refine HI.out.mono ?_
          rintro e w10 ⟨rfl, ⟨u10, hn10⟩, hb10⟩
          have HN10 := hid hn10
          have HB10 := hid hb10
          clear hn10 hb10 HI g0 g1 g2 g3
          go_wp2
          go_roundw
          case rel =>
            refine ⟨k + 1, u10, by omega, by go_num, ?_, ⟨(HB8.out.b.trans (HA9.out.mono HB8.out.size6)).trans HB10.out, HB8.out.le⟩⟩
            have e1 : cutsN (o.cuts.take (k + 1)) = cutsN (o.cuts.take k) ++ [(x.r, x.n)] := by
              rw [List.take_succ_eq_append_getElem hkl, HX.out]
              simp [cutsN]
            rw [e1, ← List.append_assoc, List.foldl_append]
            exact HN10.out
          case measure => simp [intOf]; omega
        · obtain rfl : k = n := by omega
          obtain ⟨L, hL⟩ : ∃ L, (fiveO o ++ cutsN (o.cuts.take k)).foldl noteL [] = L := ⟨_, rfl⟩
          rw [hL] at HN8
          have hLn : L = needsO o := by
            rw [← hL, List.take_of_length_le (by rw [HN.out]; exact Nat.le_refl _)]
            rfl
          have HLN := hid hLn
          clear hL hLn
          have hr := HN8.out.h3
          have z1 : wr.cell? ⟨w1.heap.size, 0, none⟩ = some u8 := cell_of_row _ _ 0 _ _ _ hr
          obtain ⟨ua, uc, hu⟩ := own_shape HN8.out.h4
          rw [hu] at z1
          have HU := hid hu
          clear hr hu
          go_wp2
          go_ret
          refine ⟨_, rfl, ?_, ?_⟩
          · have h4 := Sl.of_own HN8.out.h4
            rw [HU.out] at h4
            rw [← HLN.out]
            exact h4
          · exact HB1.out.trans ((HB4.out.trans HB8.out.b).mono (Nat.le_of_lt hl1))

theorem needs_any (o : Opn) (v : Value) (w : World) (hC : Cs w v o.cuts) (hl : o.cuts.length ≤ 100000) :
    Calls Tryd.prog 41 #[opv o v] w fun e w' => ∃ u, e = .returned u ∧ Ns w' u (needsO o) ∧ Below w.heap.size w w' := needs_box _ o v rfl w hC hl

end Go.Proofs.YtaojeanoojnknaaDoor
