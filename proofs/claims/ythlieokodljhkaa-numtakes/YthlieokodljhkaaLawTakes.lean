/-
  For every list of bytes and every row of questions the law NumTakes returns true: a cursor answers as the document says; the bytes are left as they were, and changes of them aren't seen. No condition.
-/
import Derived.Test.YthlieokodljhkaaAlive
import Derived.Test.YthlieokodljhkaaRefCur2
import Derived.Test.YthlieokodljhkaaCalls
import Derived.Test.YthlieokodljhkaaLeaves
import Derived.ProofKit
import Derived.OpenShut
import Derived.ShutString
import Derived.ChangeOld
import Derived.Below
import Derived.Deep.QuietTactic
import Derived.BigQuiet
namespace Go.Proofs.Ythlieokodljhkaa
open Go.RowKit
set_option linter.unusedVariables false

/-- A cursor whose bytes lie apart from block g stays when that block alone is written. -/
theorem Cur.apart {T : Nat} {w w' : World} {b g B : Nat} {xs : List Int} {l : Bool} {v : Value} (h1 : w.heap[b]? = some (.cells #[v, .bool l] T (0, 0))) (h2 : Bs w v xs) (h3 : Fresh B v) (hgB : g < B) (hgb : b ≠ g)
    (hg : w.grownBy w' (some g)) : w'.heap[b]? = some (.cells #[v, .bool l] T (0, 0)) ∧ Bs w' v xs := by
  refine ⟨by rw [hg.block b (Array.getElem?_eq_some_iff.1 h1).1 (by simpa using hgb)]; exact h1, ?_⟩
  obtain ⟨a, c, rfl, e2, e3, e4, e5, e6⟩ := h2
  refine ⟨a, c, rfl, e2, e3, e4, fun i hi => ?_, e6⟩
  obtain ⟨bb, off, ea, ec⟩ := e5 i hi
  subst ea
  have := h3 _ _ _ rfl
  refine ⟨bb, off, rfl, hg.cell ec ?_⟩
  simp only [ne_eq, Option.some.injEq]
  simp only at this
  omega

set_option maxHeartbeats 8000000 in
set_option maxRecDepth 100000 in
theorem takes_any (v : Value) (xs : List Int) (u : Value) (qs : List (Int × Int)) (w : World) (hv : Bs w v xs) (hu : Cl w u qs) :
    Calls Try.prog 4 #[v, u] w fun e w' => e = .returned (.bool true) ∧ Below w.heap.size w w' := by
  have l1 := hv.len
  have l2 := hu.len
  unfold maxLen at l1 l2
  have HV := hid hv
  have HU := hid hu
  have hv' := hv
  have hu' := hu
  obtain ⟨a, c, rfl, _⟩ := hv'
  obtain ⟨a2, c2, rfl, _⟩ := hu'
  clear hv hu
  by_cases hg : 5000 < xs.length ∨ 200 < qs.length
  · by_cases hg1 : 5000 < xs.length
    all_goals
      go_enter Try.func4, Try.ntmps4
      go_wp2_with fail
      refine (alive_any _).mono ?_
      rintro e w1 ⟨rfl, b1⟩
      go_wp2
      go_ret
      exact ⟨rfl, b1⟩
  · have hx5 : xs.length ≤ 5000 := by omega
    have hq2 : qs.length ≤ 200 := by omega
    clear hg
    go_enter Try.func4, Try.ntmps4
    go_wp2_with fail
    refine (alive_any _).mono ?_
    rintro e w1 ⟨rfl, b1⟩
    go_wp2_with fail
    refine (copy_own _ _ _ (HV.out.below b1) (by omega)).mono ?_
    rintro e w2 ⟨g, gc, rfl, hown2, b2⟩
    go_wp2_with fail
    have hB2 : Bs w2 _ xs := Bs.of_own hown2 HV.out.range
    refine (at_fresh _ xs _ hB2 (by omega)).mono ?_
    rintro e w3 ⟨bc, rfl, hbc, b3, vc, hcb, hcB, hcF⟩
    go_wp2_with fail
    refine (copy_own _ _ _ (HV.out.below (bt b1 (bt b2 b3))) (by omega)).mono ?_
    rintro e w4 ⟨g4, gc4, rfl, hown4, b4⟩
    go_wp2_with fail
    have hg1 := hown2.lt g rfl
    have hg4 := hown4.lt g4 rfl
    have b5 := ba w4 (.cells #[.slice (some ⟨g4, 0, none⟩) xs.length gc4, .bool false] 35)
    have b25 := bt b3 (bt b4 b5)
    have b05 := bt b1 (bt b2 b25)
    have hB4 : Bs w4 (.slice (some ⟨g4, 0, none⟩) xs.length gc4) xs := Bs.of_own hown4 HV.out.range
    refine (same_b _ _ xs xs _ (hB2.below b25) (HV.out.below b05)).mono ?_
    rintro e w6 ⟨rfl, b6⟩
    rw [decide_eq_true rfl]
    have hbr : w4.heap.size < w6.heap.size := by have := b6.size; simp at this; omega
    have hrb : w6.heap[w4.heap.size]? = some (.cells #[.slice (some ⟨g4, 0, none⟩) xs.length gc4, .bool false] 35 (0, 0)) := by
      rw [b6.block w4.heap.size (by simp)]; exact heap_alloc_new w4 _
    have hrB : Bs w6 (.slice (some ⟨g4, 0, none⟩) xs.length gc4) xs := hB4.below (bt b5 b6)
    have hrF : Fresh w3.heap.size (.slice (some ⟨g4, 0, none⟩) xs.length gc4) := Fresh.of_own hown4
    have b36 : Below w3.heap.size w3 w6 := bt b4 (bt b5 b6)
    have hcb6 : w6.heap[bc]? = some (.cells #[vc, .bool false] 47 (0, 0)) := by rw [b36.block bc (Array.getElem?_eq_some_iff.1 hcb).1]; exact hcb
    have hcB6 := hcB.below b36
    have hown6 := hown2.kept (World.grownBy.of_below (row := none) (bt b3 b36)) (.inr (by simp [Value.ownBlock]))
    have b06 := bt b05 b6
    obtain ⟨br, hbre⟩ : ∃ br, w4.heap.size = br := ⟨_, rfl⟩
    have hgbc : bc ≠ g := by omega
    have hgbr : br ≠ g := by have := b3.size; have := b4.size; omega
    have hbcr : br ≠ bc := by have := (Array.getElem?_eq_some_iff.1 hcb).1; have := b4.size; omega
    have hg0 : w.heap.size ≤ g := Nat.le_trans b1.size hg1.1
    have hbc0 : w.heap.size ≤ bc := by have := (bt b1 b2).size; omega
    have hbr0 : w.heap.size ≤ br := by have := (bt b1 (bt b2 (bt b3 b4))).size; omega
    have hg3 : g < w3.heap.size := by have := b3.size; omega
    rw [hbre] at hrb ⊢
    have hE : (∀ wr, w6.grownBy wr (some g) → Cur 47 wr bc xs false ∧ Cur 35 wr br xs false) := by
      intro wr hgr
      have e1 := Cur.apart hcb6 hcB6 hcF hg1.2 hgbc hgr
      have e2 := Cur.apart hrb hrB hrF hg3 hgbr hgr
      exact ⟨⟨_, e1.1, e1.2⟩, ⟨_, e2.1, e2.2⟩⟩
    have HE := hid hE
    clear hE hcb6 hcB6 hcF hrb hrB hrF b36 hcb hcB b25 b05 b5 b6 b4 b3 b2 b1 hB2 hB4 hown2 hown4 hbre hg4 hbr hbc hg3 hg1
    go_wp2
    go_loopw [8] (fun i wr => ∃ (k : Nat) (zs : List Int), k ≤ xs.length ∧ i = .int .i64 k ∧ zs.length = xs.length ∧ wr.ownsRow w1.heap.size 5 1 (.slice (some ⟨g, 0, none⟩) xs.length gc) xs.length (cs zs) ∧ w6.grownBy wr (some g))
      (fun i _ => xs.length - (intOf i).toNat)
    case atStart => exact ⟨0, xs, Nat.zero_le _, rfl, rfl, hown6, World.grownBy.refl _ _⟩
    case round =>
      clear hown6
      obtain ⟨k, zs, hk, rfl, hzs, hown, hgr⟩ := hrel
      by_cases hlt : k < xs.length
      · have hcell : wr.cell? ⟨g, k, none⟩ = some (.int .u8 (zs.getD k 0)) := by
          rw [hown.cellAt k (by omega)]
          simp [cs, show k < zs.length by omega]
        have hfz := hown.frozenAt k
        have HS := hid (hown.stored k)
        have hklt : (k : Int) < (xs.length : Int) := by omega
        generalize zs.getD k 0 = z at hcell
        clear hown
        go_wp2
        go_roundw
        case rel =>
          have hs := HS.out (.int .u8 (bits BinOp.xor IntKind.u8 z 85))
          refine ⟨k + 1, zs.set k (bits BinOp.xor IntKind.u8 z 85), by omega, by go_num, by simpa using hzs, ?_, hgr.trans hs.2⟩
          have e := hs.1
          rw [← List.map_set] at e
          exact e
        case measure => simp [intOf]; omega
      · have hcur := HE.out wr hgr
        have bel : Below w.heap.size w wr := bg b06 hgr hg0
        clear hown hgr HE b06
        go_wp2
        obtain ⟨hcurC, hcurR⟩ := hcur
        go_loopw [9] (fun i wr => ∃ (k : Nat) (ys : List Int) (l : Bool), k ≤ qs.length ∧ i = .int .i64 k ∧ Cur 47 wr bc ys l ∧ Cur 35 wr br ys l ∧ (l = true → ys = []) ∧ ys.length ≤ 5000 ∧ Below w.heap.size w wr)
          (fun i _ => qs.length - (intOf i).toNat)
        case atStart => exact ⟨0, xs, false, Nat.zero_le _, rfl, hcurC, hcurR, (fun e => by cases e), hx5, bel⟩
        case round =>
          clear hcurC hcurR bel hlt hzs hk
          obtain ⟨k, ys, l, hk, rfl, hC, hR, hly, hy5, bel⟩ := hrel
          have HC := hid hC
          have HR := hid hR
          have HLY := hid hly
          clear hC hR hly
          by_cases hlt : k < qs.length
          · obtain ⟨a3, c3, hue, hc31, hc32, hcell⟩ := HU.out.keeps (Keeps.below bel)
            obtain ⟨qb, qo, hq, hq0, hq1⟩ := hcell k hlt
            simp only [Value.slice.injEq, true_and] at hue
            obtain ⟨rfl, rfl⟩ := hue
            subst hq
            obtain ⟨⟨what, N⟩, hqq⟩ : ∃ q, qs.getD k (0, 0) = q := ⟨_, rfl⟩
            rw [hqq] at hq0 hq1
            clear hqq hcell HU HV
            by_cases w0 : what = 0
            · subst w0
              go_wp2_with fail
              refine (num_any bc _ _ N _ HC.out).mono ?_
              rintro e w8 ⟨rfl, hC3, g3⟩
              have hR3 := HC.out.other HR.out hbcr g3
              have bel3 := bg bel g3 hbc0
              go_wp2_with fail
              refine (refnum_any br _ _ N _ hR3 HLY.out).mono ?_
              rintro e w9 ⟨rfl, hR4, g4'⟩
              have hC4 := hR3.other hC3 (fun e => hbcr e.symm) g4'
              have bel4 := bg bel3 g4' hbr0
              have hL := leaves_num N ys l HLY.out
              generalize M.numV N ys = nv at hL ⊢
              generalize M.numS N ys = ys1 at hL hC4 hR4 hC3
              generalize M.numL N ys l = l1 at hL hC4 hR4 hC3
              have hL1 := hid (fun e => (hL.1 e).2)
              have hylen := hL.2.2
              have hnn : (nv != nv) = false := by simp
              clear hL hC3 hR3 g3 g4' bel3 bel HC HR HLY hq0 hq1
              cases l1 with
              | true =>
                obtain rfl := hL1.out rfl
                obtain ⟨ra, rc, _, hr0, hr1, _, _⟩ := hR4.cells
                go_wp2
                go_quiet ((first
                  | (go_at_call 23; exact Calls.quiet_of_same ((lost_any bc _ _ _ (hC4.drewN _)).mono fun _ _ h => ⟨h.1, h.2.symm⟩))
                  | (go_at_call 24; exact Calls.quiet_of_same ((left_any bc _ _ _ (hC4.drewN _)).mono fun _ _ h => ⟨h.1, h.2.symm⟩))
                  | (go_at_call 25; exact Calls.quiet_of_same ((end_any bc _ _ _ (hC4.drewN _)).mono fun _ _ h => ⟨h.1, h.2.symm⟩))))
                go_wp2
                go_roundw
                case rel => exact ⟨k + 1, [], true, by omega, by go_num, hC4.drewN _, hR4.drewN _, fun _ => rfl, by simp, below_drewN bel4 _⟩
                case measure => simp [intOf]; omega
              | false =>
                obtain ⟨ra, rc, _, hr0, hr1, _, _⟩ := hR4.cells
                have hle : ((ys1.length : Int) != (ys1.length : Int)) = false := by simp
                by_cases hy0 : ys1 = []
                · subst hy0
                  go_wp2
                  go_quiet ((first
                    | (go_at_call 23; exact Calls.quiet_of_same ((lost_any bc _ _ _ (hC4.drewN _)).mono fun _ _ h => ⟨h.1, h.2.symm⟩))
                    | (go_at_call 24; exact Calls.quiet_of_same ((left_any bc _ _ _ (hC4.drewN _)).mono fun _ _ h => ⟨h.1, h.2.symm⟩))
                    | (go_at_call 25; exact Calls.quiet_of_same ((end_any bc _ _ _ (hC4.drewN _)).mono fun _ _ h => ⟨h.1, h.2.symm⟩))))
                  go_wp2
                  go_roundw
                  case rel => exact ⟨k + 1, [], false, by omega, by go_num, hC4.drewN _, hR4.drewN _, fun _ => rfl, by simp, below_drewN bel4 _⟩
                  case measure => simp [intOf]; omega
                · have hyl : 0 < ys1.length := by cases ys1 <;> simp_all
                  have hye : ys1.isEmpty = false := by cases ys1 <;> simp_all
                  have hyz : ((ys1.length : Int) == 0) = false := by simp; omega
                  have HY0 := hid hy0
                  clear hy0
                  go_wp2
                  go_quiet ((first
                    | (go_at_call 23; exact Calls.quiet_of_same ((lost_any bc _ _ _ (hC4.drewN _)).mono fun _ _ h => ⟨h.1, h.2.symm⟩))
                    | (go_at_call 24; exact Calls.quiet_of_same ((left_any bc _ _ _ (hC4.drewN _)).mono fun _ _ h => ⟨h.1, h.2.symm⟩))
                    | (go_at_call 25; exact Calls.quiet_of_same ((end_any bc _ _ _ (hC4.drewN _)).mono fun _ _ h => ⟨h.1, h.2.symm⟩))))
                  go_wp2
                  go_roundw
                  case rel => exact ⟨k + 1, ys1, false, by omega, by go_num, hC4.drewN _, hR4.drewN _, (fun e => by cases e), by omega, below_drewN bel4 _⟩
                  case measure => simp [intOf]; omega
            · by_cases w1' : what = 1
              · subst w1'
                go_wp2_with fail
                refine (text_any bc _ _ N _ HC.out).mono ?_
                rintro e w8 ⟨rfl, hC3, g3⟩
                have hR3 := HC.out.other HR.out hbcr g3
                have bel3 := bg bel g3 hbc0
                go_wp2_with fail
                refine (reftext_any br _ _ N _ hR3 HLY.out (by omega)).mono ?_
                rintro e w9 ⟨rfl, hR4, g4'⟩
                have hC4 := hR3.other hC3 (fun e => hbcr e.symm) g4'
                have bel4 := bg bel3 g4' hbr0
                have hL := leaves_text N ys l HLY.out
                generalize M.str (M.textV N ys) = st
                generalize M.textV N ys = tv at hL
                generalize M.textS N ys = ys1 at hL hC4 hR4 hC3
                generalize M.textL N ys l = l1 at hL hC4 hR4 hC3
                have hL1 := hid (fun e => (hL.1 e).2)
                have hylen := hL.2.2
                clear hL hC3 hR3 g3 g4' bel3 bel HC HR HLY hq0 hq1
                cases l1 with
                | true =>
                  obtain rfl := hL1.out rfl
                  obtain ⟨ra, rc, _, hr0, hr1, _, _⟩ := hR4.cells
                  go_wp2
                  go_quiet ((first
                    | (go_at_call 23; exact Calls.quiet_of_same ((lost_any bc _ _ _ (hC4.drewN _)).mono fun _ _ h => ⟨h.1, h.2.symm⟩))
                    | (go_at_call 24; exact Calls.quiet_of_same ((left_any bc _ _ _ (hC4.drewN _)).mono fun _ _ h => ⟨h.1, h.2.symm⟩))
                    | (go_at_call 25; exact Calls.quiet_of_same ((end_any bc _ _ _ (hC4.drewN _)).mono fun _ _ h => ⟨h.1, h.2.symm⟩))))
                  go_wp2
                  go_roundw
                  case rel => exact ⟨k + 1, [], true, by omega, by go_num, hC4.drewN _, hR4.drewN _, fun _ => rfl, by simp, below_drewN bel4 _⟩
                  case measure => simp [intOf]; omega
                | false =>
                  obtain ⟨ra, rc, _, hr0, hr1, _, _⟩ := hR4.cells
                  have hle : ((ys1.length : Int) != (ys1.length : Int)) = false := by simp
                  by_cases hy0 : ys1 = []
                  · subst hy0
                    go_wp2
                    go_quiet ((first
                      | (go_at_call 23; exact Calls.quiet_of_same ((lost_any bc _ _ _ (hC4.drewN _)).mono fun _ _ h => ⟨h.1, h.2.symm⟩))
                      | (go_at_call 24; exact Calls.quiet_of_same ((left_any bc _ _ _ (hC4.drewN _)).mono fun _ _ h => ⟨h.1, h.2.symm⟩))
                      | (go_at_call 25; exact Calls.quiet_of_same ((end_any bc _ _ _ (hC4.drewN _)).mono fun _ _ h => ⟨h.1, h.2.symm⟩))))
                    go_wp2
                    go_roundw
                    case rel => exact ⟨k + 1, [], false, by omega, by go_num, hC4.drewN _, hR4.drewN _, fun _ => rfl, by simp, below_drewN bel4 _⟩
                    case measure => simp [intOf]; omega
                  · have hyl : 0 < ys1.length := by cases ys1 <;> simp_all
                    have hye : ys1.isEmpty = false := by cases ys1 <;> simp_all
                    have hyz : ((ys1.length : Int) == 0) = false := by simp; omega
                    have HY0 := hid hy0
                    clear hy0
                    go_wp2
                    go_quiet ((first
                      | (go_at_call 23; exact Calls.quiet_of_same ((lost_any bc _ _ _ (hC4.drewN _)).mono fun _ _ h => ⟨h.1, h.2.symm⟩))
                      | (go_at_call 24; exact Calls.quiet_of_same ((left_any bc _ _ _ (hC4.drewN _)).mono fun _ _ h => ⟨h.1, h.2.symm⟩))
                      | (go_at_call 25; exact Calls.quiet_of_same ((end_any bc _ _ _ (hC4.drewN _)).mono fun _ _ h => ⟨h.1, h.2.symm⟩))))
                    go_wp2
                    go_roundw
                    case rel => exact ⟨k + 1, ys1, false, by omega, by go_num, hC4.drewN _, hR4.drewN _, (fun e => by cases e), by omega, below_drewN bel4 _⟩
                    case measure => simp [intOf]; omega
              · by_cases w2' : what = 2
                · subst w2'
                  go_wp2_with fail
                  refine (bytes_any bc _ _ N _ HC.out (by omega)).mono ?_
                  rintro e w8 ⟨v8, rfl, hB8, hC3, g3⟩
                  have hR3 := HC.out.other HR.out hbcr g3
                  have bel3 := bg bel g3 hbc0
                  go_wp2_with fail
                  refine (refbytes_any br _ _ N _ hR3 HLY.out (by omega)).mono ?_
                  rintro e w9 ⟨v9, rfl, hB9, hR4', g4'⟩
                  have hC4' := hR3.other hC3 (fun e => hbcr e.symm) g4'
                  have bel4' := bg bel3 g4' hbr0
                  go_wp2_with fail
                  refine (same_b _ _ _ _ _ (hB8.keeps (hR3.keeps g4')) hB9).mono ?_
                  rintro e w10 ⟨rfl, b10⟩
                  rw [decide_eq_true rfl]
                  have hC4 := hC4'.below b10
                  have hR4 := hR4'.below b10
                  have bel4 := bt bel4' b10
                  have hL := leaves_take N ys l HLY.out
                  generalize M.takeV N ys = tv at hL hB8 hB9
                  generalize M.takeS N ys = ys1 at hL hC4 hR4 hC3 hC4' hR4'
                  generalize M.takeL N ys l = l1 at hL hC4 hR4 hC3 hC4' hR4'
                  have hL1 := hid (fun e => (hL.1 e).2)
                  have hylen := hL.2.2
                  clear hL hC3 hR3 g3 g4' bel3 bel HC HR HLY hq0 hq1 hC4' hR4' bel4' b10 hB8 hB9
                  cases l1 with
                  | true =>
                    obtain rfl := hL1.out rfl
                    obtain ⟨ra, rc, _, hr0, hr1, _, _⟩ := hR4.cells
                    go_wp2
                    go_quiet ((first
                      | (go_at_call 23; exact Calls.quiet_of_same ((lost_any bc _ _ _ (hC4.drewN _)).mono fun _ _ h => ⟨h.1, h.2.symm⟩))
                      | (go_at_call 24; exact Calls.quiet_of_same ((left_any bc _ _ _ (hC4.drewN _)).mono fun _ _ h => ⟨h.1, h.2.symm⟩))
                      | (go_at_call 25; exact Calls.quiet_of_same ((end_any bc _ _ _ (hC4.drewN _)).mono fun _ _ h => ⟨h.1, h.2.symm⟩))))
                    go_wp2
                    go_roundw
                    case rel => exact ⟨k + 1, [], true, by omega, by go_num, hC4.drewN _, hR4.drewN _, fun _ => rfl, by simp, below_drewN bel4 _⟩
                    case measure => simp [intOf]; omega
                  | false =>
                    obtain ⟨ra, rc, _, hr0, hr1, _, _⟩ := hR4.cells
                    have hle : ((ys1.length : Int) != (ys1.length : Int)) = false := by simp
                    by_cases hy0 : ys1 = []
                    · subst hy0
                      go_wp2
                      go_quiet ((first
                        | (go_at_call 23; exact Calls.quiet_of_same ((lost_any bc _ _ _ (hC4.drewN _)).mono fun _ _ h => ⟨h.1, h.2.symm⟩))
                        | (go_at_call 24; exact Calls.quiet_of_same ((left_any bc _ _ _ (hC4.drewN _)).mono fun _ _ h => ⟨h.1, h.2.symm⟩))
                        | (go_at_call 25; exact Calls.quiet_of_same ((end_any bc _ _ _ (hC4.drewN _)).mono fun _ _ h => ⟨h.1, h.2.symm⟩))))
                      go_wp2
                      go_roundw
                      case rel => exact ⟨k + 1, [], false, by omega, by go_num, hC4.drewN _, hR4.drewN _, fun _ => rfl, by simp, below_drewN bel4 _⟩
                      case measure => simp [intOf]; omega
                    · have hyl : 0 < ys1.length := by cases ys1 <;> simp_all
                      have hye : ys1.isEmpty = false := by cases ys1 <;> simp_all
                      have hyz : ((ys1.length : Int) == 0) = false := by simp; omega
                      have HY0 := hid hy0
                      clear hy0
                      go_wp2
                      go_quiet ((first
                        | (go_at_call 23; exact Calls.quiet_of_same ((lost_any bc _ _ _ (hC4.drewN _)).mono fun _ _ h => ⟨h.1, h.2.symm⟩))
                        | (go_at_call 24; exact Calls.quiet_of_same ((left_any bc _ _ _ (hC4.drewN _)).mono fun _ _ h => ⟨h.1, h.2.symm⟩))
                        | (go_at_call 25; exact Calls.quiet_of_same ((end_any bc _ _ _ (hC4.drewN _)).mono fun _ _ h => ⟨h.1, h.2.symm⟩))))
                      go_wp2
                      go_roundw
                      case rel => exact ⟨k + 1, ys1, false, by omega, by go_num, hC4.drewN _, hR4.drewN _, (fun e => by cases e), by omega, below_drewN bel4 _⟩
                      case measure => simp [intOf]; omega
                · have n0 : (what == 0) = false := by simpa using w0
                  have n1 : (what == 1) = false := by simpa using w1'
                  have n2 : (what == 2) = false := by simpa using w2'
                  have hC4 := HC.out
                  have hR4 := HR.out
                  have hL1 := HLY
                  have bel4 := bel
                  have hylen : ys.length ≤ ys.length := Nat.le_refl _
                  clear HC HR HLY bel w0 w1' w2'
                  cases l with
                  | true =>
                    obtain rfl := hL1.out rfl
                    obtain ⟨ra, rc, _, hr0, hr1, _, _⟩ := hR4.cells
                    go_wp2
                    go_quiet ((first
                      | (go_at_call 23; exact Calls.quiet_of_same ((lost_any bc _ _ _ (hC4.drewN _)).mono fun _ _ h => ⟨h.1, h.2.symm⟩))
                      | (go_at_call 24; exact Calls.quiet_of_same ((left_any bc _ _ _ (hC4.drewN _)).mono fun _ _ h => ⟨h.1, h.2.symm⟩))
                      | (go_at_call 25; exact Calls.quiet_of_same ((end_any bc _ _ _ (hC4.drewN _)).mono fun _ _ h => ⟨h.1, h.2.symm⟩))))
                    go_wp2
                    go_roundw
                    case rel => exact ⟨k + 1, [], true, by omega, by go_num, hC4.drewN _, hR4.drewN _, fun _ => rfl, by simp, below_drewN bel4 _⟩
                    case measure => simp [intOf]; omega
                  | false =>
                    obtain ⟨ra, rc, _, hr0, hr1, _, _⟩ := hR4.cells
                    have hle : ((ys.length : Int) != (ys.length : Int)) = false := by simp
                    by_cases hy0 : ys = []
                    · subst hy0
                      go_wp2
                      go_quiet ((first
                        | (go_at_call 23; exact Calls.quiet_of_same ((lost_any bc _ _ _ (hC4.drewN _)).mono fun _ _ h => ⟨h.1, h.2.symm⟩))
                        | (go_at_call 24; exact Calls.quiet_of_same ((left_any bc _ _ _ (hC4.drewN _)).mono fun _ _ h => ⟨h.1, h.2.symm⟩))
                        | (go_at_call 25; exact Calls.quiet_of_same ((end_any bc _ _ _ (hC4.drewN _)).mono fun _ _ h => ⟨h.1, h.2.symm⟩))))
                      go_wp2
                      go_roundw
                      case rel => exact ⟨k + 1, [], false, by omega, by go_num, hC4.drewN _, hR4.drewN _, fun _ => rfl, by simp, below_drewN bel4 _⟩
                      case measure => simp [intOf]; omega
                    · have hyl : 0 < ys.length := by cases ys <;> simp_all
                      have hye : ys.isEmpty = false := by cases ys <;> simp_all
                      have hyz : ((ys.length : Int) == 0) = false := by simp; omega
                      have HY0 := hid hy0
                      clear hy0
                      go_wp2
                      go_quiet ((first
                        | (go_at_call 23; exact Calls.quiet_of_same ((lost_any bc _ _ _ (hC4.drewN _)).mono fun _ _ h => ⟨h.1, h.2.symm⟩))
                        | (go_at_call 24; exact Calls.quiet_of_same ((left_any bc _ _ _ (hC4.drewN _)).mono fun _ _ h => ⟨h.1, h.2.symm⟩))
                        | (go_at_call 25; exact Calls.quiet_of_same ((end_any bc _ _ _ (hC4.drewN _)).mono fun _ _ h => ⟨h.1, h.2.symm⟩))))
                      go_wp2
                      go_roundw
                      case rel => exact ⟨k + 1, ys, false, by omega, by go_num, hC4.drewN _, hR4.drewN _, (fun e => by cases e), by omega, below_drewN bel4 _⟩
                      case measure => simp [intOf]; omega
          · go_wp2
            go_ret
            exact ⟨rfl, bel⟩


namespace numTakes
open Go.ChangeShapes Go.WideShapes Go.ChangeAt
open Go.ChangeMaps (open_string shut_string)

theorem own : ownKnob Try.prog.godebug = none := by kernel_rfl
theorem laidOut : laidOutB Try.prog = true := by kernel_rfl

set_option maxRecDepth 100000 in
theorem lifted (os : Os) (started : os.Started) (H : Type) (enc : TypeId × Value → H) :
    ReturnsInHanded {} Try.checked os 4 .any (Rows.numTakesSpec.pre6 enc Try.prog Try.f4 Rows.numTakesRow.domain false) (Rows.numTakesSpec.post enc Try.prog Try.f4 false true false false) := by
  refine returnsInHanded_of_change (C := Try.checked) own started (by kernel_rfl) Try.func4
    (ChangeSpec.witness6 (enc := enc) (C := Try.checked) false ⟨#[], #[.slice none 0 0, .slice none 0 0], []⟩ 8 (by kernel_rfl) (by kernel_rfl) (by kernel_rfl) (by kernel_rfl)) ?_
  intro W base args ds gs before hval0 hW hcnd _
  have hval : ∀ (j : Nat) t v, Try.f4.params[j]? = some t → args[j]? = some v → Value.okWide Try.prog W .any base t v := hval0
  have hW' := hW
  obtain ⟨p, q, hA0, hV, rfl, hfz, hnd⟩ := hW
  have hA : DataW.TrodAll enc Try.prog W 0 (fun _ => true) true Try.f4.params.toList args.toList ds p := hA0
  rw [Try.params4] at hA hval
  obtain ⟨v0, vs0, d0, ds0, p0, q0, hargs, rfl, rfl, h0, r0⟩ := trodAll_cons hA
  obtain ⟨v1, vs1, d1, ds1, p1, q1, rfl, rfl, rfl, h1, r1⟩ := trodAll_cons r0
  obtain ⟨rfl, rfl, rfl⟩ := trodAll_nil r1
  obtain rfl : args = #[v0, v1] := by cases args; simp_all
  obtain ⟨rfl, rfl⟩ := trodVars_none hV
  obtain ⟨a0, len0, cap0, rfl⟩ := okWide_slice Try.underlying23 (hval 0 23 v0 rfl rfl)
  have k0 := h0
  have lt0 : ∀ x ∈ p0, x.block < W.heap.size := by obtain ⟨m, hm⟩ := k0; exact DataW.trod_lt m _ _ _ hm
  obtain ⟨z0, w0⟩ : ∃ xs, Bs W (.slice a0 len0 cap0) xs := by
    obtain ⟨fuel, hf⟩ := h0
    rcases open_ints Try.underlying23 Try.underlying5 (by kernel_rfl) hf with ⟨hcs, _⟩ | ⟨x, l, c, zs, hcs, _, hl, hm, hz, _, hcell, hwz⟩
    · simp [Value.cells] at hcs
      obtain ⟨rfl, rfl, rfl⟩ := hcs
      exact ⟨[], Bs.nil W⟩
    · simp [Value.cells] at hcs
      obtain ⟨rfl, rfl, rfl⟩ := hcs
      exact ⟨zs.take len0, Bs.of_row hl hm (by simpa using hz) hcell hwz⟩
  obtain ⟨a1, len1, cap1, rfl⟩ := okWide_slice Try.underlying29 (hval 1 29 v1 rfl rfl)
  have k1 := h1
  have lt1 : ∀ x ∈ p1, x.block < W.heap.size := by obtain ⟨m, hm⟩ := k1; exact DataW.trod_lt m _ _ _ hm
  obtain ⟨z1, w1⟩ := Cl.open h1
  clear hA0 hval0
  refine (takes_any _ z0 _ z1 W w0 w1).mono fun e W' ⟨he, bel⟩ => ?_
  subst he
  exact ⟨_, rfl, _, _, _, [], _, [], hW', trodAll_mk1 (shut_bool Try.underlying4 _), (trodAll_cons_mk (Below.trod laidOut (by kernel_rfl) (of_decide_eq_true (by kernel_rfl)) k0 bel lt0) (trodAll_cons_mk (Below.trod laidOut (by kernel_rfl) (of_decide_eq_true (by kernel_rfl)) k1 bel lt1) trodAll_mk0)), rfl, bel.frame _, fun h => by cases h⟩

theorem over : Rows.numTakesRow.holds Try.pinned (OpenSpec.ofChange Rows.numTakesSpec) :=
  OpenClaim.holds_of_wide 4 Try.f4 rfl rfl rfl rfl rfl rfl rfl ⟨rfl, rfl, rfl, rfl, rfl⟩ rfl rfl rfl rfl rfl (by kernel_rfl) Try.func4 (by kernel_rfl)
    (of_decide_eq_true (by kernel_rfl)) (by unfold Func.isWrapper; first | (rw [if_pos (by decide +kernel)]; kernel_rfl) | (rw [if_neg (by decide +kernel)]; exact ⟨rfl, rfl⟩))
    (fun os started H enc _ => lifted os started H enc)
end numTakes

/-- THE STATEMENT. -/
theorem numTakes_holds : Rows.NumTakesSaid := numTakes.over


end Go.Proofs.Ythlieokodljhkaa
