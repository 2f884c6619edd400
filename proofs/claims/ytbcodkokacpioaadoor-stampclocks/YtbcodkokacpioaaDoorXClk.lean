/-
  What the reference's clock does is proved here: its Tick and its See, for every clock within its bounds, and every name and time.
-/
import Derived.Test.YtbcodkokacpioaaDoorSTick
import Derived.Test.YtbcodkokacpioaaDoorSQuiet2
namespace Go.Proofs.YtbcodkokacpioaaDoor
open Go.RowKit
set_option linter.unusedVariables false

/-- Block b is a clock of the reference. -/
def Xk (w : World) (b : Nat) (r t n : Int) : Prop := w.heap[b]? = some (.cells #[.int .i64 r, .int .i64 t, .int .i64 n] 47 (0, 0))
theorem Xk.lt {w : World} {b : Nat} {r t n : Int} (h : Xk w b r t n) : b < w.heap.size := (Array.getElem?_eq_some_iff.1 h).1
theorem Xk.below {w w' : World} {b : Nat} {r t n : Int} (h : Xk w b r t n) (hb : Below w.heap.size w w') : Xk w' b r t n := (hb.block b h.lt).trans h
theorem Xk.other {w w' : World} {b c : Nat} {r t n : Int} (h : Xk w b r t n) (hg : w.grownBy w' (some c)) (hne : b ≠ c) : Xk w' b r t n := (hg.block b h.lt (by simpa using hne)).trans h
theorem Xk.drew {w : World} {b : Nat} {r t n : Int} (h : Xk w b r t n) : Xk w.drew b r t n := h
theorem Xk.set1 {w : World} {b : Nat} {r t n : Int} (h : Xk w b r t n) (x : Int) : Xk (w.setCell ⟨b, 1, none⟩ (.int .i64 x)) b r x n := by
  unfold Xk at h ⊢
  rw [heap_setCell_same w b 1 _ 47 _ h]; rfl
theorem Xk.set2 {w : World} {b : Nat} {r t n : Int} (h : Xk w b r t n) (x : Int) : Xk (w.setCell ⟨b, 2, none⟩ (.int .i64 x)) b r t x := by
  unfold Xk at h ⊢
  rw [heap_setCell_same w b 2 _ 47 _ h]; rfl
theorem Xk.c0 {w : World} {b : Nat} {r t n : Int} (h : Xk w b r t n) : w.cell? ⟨b, 0, none⟩ = some (.int .i64 r) := by rw [cell_of_row w b 0 _ _ _ h]; rfl
theorem Xk.c1 {w : World} {b : Nat} {r t n : Int} (h : Xk w b r t n) : w.cell? ⟨b, 1, none⟩ = some (.int .i64 t) := by rw [cell_of_row w b 1 _ _ _ h]; rfl
theorem Xk.c2 {w : World} {b : Nat} {r t n : Int} (h : Xk w b r t n) : w.cell? ⟨b, 2, none⟩ = some (.int .i64 n) := by rw [cell_of_row w b 2 _ _ _ h]; rfl
theorem Xk.f {w : World} {b : Nat} {r t n : Int} (h : Xk w b r t n) (i : Nat) : w.frozen? ⟨b, i, none⟩ = false := frozen_of_row w b i _ _ h

set_option maxHeartbeats 1000000 in
theorem xtick_lim (b : Nat) (r t n : Int) (w : World) (h : Xk w b r t n) (hin : In t n) (hlim : t = 1099511627776 ∨ n = 1048576) :
    Calls Tryd.prog 28 #[.pointer (some ⟨b, 0, none⟩)] w fun e w' => e = .returned (tk 0 0 0 19) ∧ Xk w' b r t n ∧ w.grownBy w' (some b) := by
  have h1 := h.below (ba w (ido 23 0 0))
  have k1 := h1.c1
  have k2 := h1.c2
  have H1 := hid h1
  have ht : (1099511627776 ≤ t) ∨ (decide (1099511627776 ≤ t) = false ∧ 1048576 ≤ n) := by
    by_cases ht : 1099511627776 ≤ t
    · exact .inl ht
    · exact .inr ⟨by simpa using ht, by omega⟩
  clear hlim hin h h1
  rcases ht with ht | ⟨ht, hn⟩
  all_goals
    go_enter Tryd.func28, Tryd.ntmps28
    go_wp2_with fail
    refine bodyPost_ret (results_id3 rfl _ _ rfl (r := 0) (n := 0) (Pr.new _ w 0 0)) rfl ?_
    exact ⟨rfl, H1.out, World.grownBy.of_below (ba _ _)⟩

set_option maxHeartbeats 1000000 in
theorem xtick_goes (b : Nat) (r t n : Int) (w : World) (h : Xk w b r t n) (hin : In t n) (ht : ¬ t = 1099511627776) (hn : ¬ n = 1048576) :
    Calls Tryd.prog 28 #[.pointer (some ⟨b, 0, none⟩)] w fun e w' => e = .returned (tk r (n + 1) (t + 1) 0) ∧ Xk w' b r (t + 1) (n + 1) ∧ w.grownBy w' (some b) := by
  have hb := h.lt
  have h1 := h.below (ba w (ido 23 0 0))
  have a0 := h1.c0
  have a1 := h1.c1
  have a2 := h1.c2
  have z1 := h1.f 1
  have z2 := h1.f 2
  have ht' : decide (1099511627776 ≤ t) = false := by simp; omega
  have hn' : ¬ 1048576 ≤ n := by omega
  have wt : wrap64 (t + 1) = t + 1 := by unfold wrap64; omega
  have wn : wrap64 (n + 1) = n + 1 := by unfold wrap64; omega
  obtain ⟨s, hs⟩ : ∃ s, w.heap.size = s := ⟨_, rfl⟩
  have hsb : ¬ b = s := by omega
  have hsb' : ¬ s = b := by omega
  have HP := hid (hs ▸ Pr.new 23 w 0 0 : Pr 23 (w.alloc (ido 23 0 0)) s 0 0)
  have H1 := hid h1
  clear h h1 hin ht hn
  go_enter Tryd.func28, Tryd.ntmps28
  have HX := hid ((H1.out.set1 (t + 1)).set2 (n + 1))
  have x0 := HX.out.c0
  have x1 := HX.out.c1
  have x2 := HX.out.c2
  have HY := hid ((HX.out.other (grown_set _ s 0 (.int .i64 r)) hsb).other (grown_set _ s 1 (.int .i64 (n + 1))) hsb)
  have HQ := hid ((((HP.out.other (grown_set _ b 1 (.int .i64 (t + 1))) hsb').other (grown_set _ b 2 (.int .i64 (n + 1))) hsb').set0 r).set1 (n + 1))
  have HG := hid (((((((Gb.refl w.heap.size b w).alloc (ido 23 0 0) (Nat.le_refl _)).grown (grown_set _ b 1 (.int .i64 (t + 1))) (ba w _).size).grown (grown_set _ b 2 (.int .i64 (n + 1))) (by rw [size_set]; exact (ba w _).size)).set (Nat.le_of_eq hs) 0 (.int .i64 r)).set (Nat.le_of_eq hs) 1 (.int .i64 (n + 1))).drew)
  go_wp2_with fail
  go_region
  go_wp2_with fail
  refine bodyPost_ret (results_id3 rfl _ _ rfl (s := s) (r := r) (n := n + 1) HQ.out.drew) rfl ?_
  exact ⟨rfl, HY.out.drew, HG.out.done⟩

set_option maxHeartbeats 8000000 in
set_option maxRecDepth 100000 in
theorem xsee_any (b : Nat) (r t n i j u : Int) (w : World) (h : Xk w b r t n) :
    Calls Tryd.prog 30 #[.pointer (some ⟨b, 0, none⟩), idv i j, .int .i64 u] w fun e w' =>
      e = .returned (.tuple #[]) ∧ Xk w' b r (seeT t u) (seeN r n i j) ∧ w.grownBy w' (some b) := by
  have hb := h.lt
  have h1 := h.below (ba w (ido 23 i j))
  obtain ⟨s, hs⟩ : ∃ s, w.heap.size = s := ⟨_, rfl⟩
  have hsb : ¬ b = s := by omega
  have hsb' : ¬ s = b := by omega
  have HP := hid (hs ▸ Pr.new 23 w i j : Pr 23 (w.alloc (ido 23 i j)) s i j)
  have G0 := hid ((Gb.refl w.heap.size b w).alloc (ido 23 i j) (Nat.le_refl _))
  have H1 := hid h1
  have a1 := h1.c1
  have z1 := h1.f 1
  clear h h1
  cases hu : decide (u ≤ 1099511627776)
  · rw [show seeT t u = t by unfold seeT; simp at hu; rw [if_neg (by omega)]]
    have HXC := hid (H1.out)
    have HPC := hid (HP.out)
    have GC := hid (G0.out)
    have ZC : Hid (w.heap.size ≤ (w.alloc (ido 23 i j)).heap.size) := by unfold Hid; exact (ba w _).size
    cases hro : ro i j
    · rw [show seeN r n i j = n by unfold seeN; rw [if_neg (fun h => by rw [hro] at h; simp at h)]]
      go_enter Tryd.func30, Tryd.ntmps30
      go_wp2_with fail
      refine wp_region_class (C := fun W => Below (w.alloc (ido 23 i j)).heap.size (w.alloc (ido 23 i j)) W) (by kernel_rfl) (by kernel_rfl) (bd (w.alloc (ido 23 i j)) 1) ?_
      refine wpQuiet_split 3 ?_
      intro R hR
      have HR := hid hR
      clear hR
      simp only [List.take_succ_cons, List.take_zero, List.cons_append, List.nil_append]
      refine BigFrame.wpQuiet_want (by kernel_rfl) (fun K hK => ?_)
      refine q_val (idv i j) (fun W hW => ?_) ?_
      · have c0 := (HPC.out.below hW).c0
        have c1 := (HPC.out.below hW).c1
        go_simp
      go_simp
      refine hK _ ?_
      clear hK K
      refine BigFrame.wpQuiet_want (by kernel_rfl) (fun K hK => ?_)
      refine q_call (f := 11) (args := #[idv i j]) (.bool false) (fun W => ?_) (fun W hW => ?_) ?_
      · go_simp
      · exact (xro_any i j W).mono fun e W' ⟨he, hb'⟩ => ⟨by rw [he, hro], bt hW (hb' ▸ ba _ _)⟩
      go_simp
      refine hK _ ?_
      clear hK K
      refine BigFrame.wpQuiet_want (by kernel_rfl) (fun K hK => ?_)
      refine q_val (.bool false) (fun W hW => ?_) ?_
      · go_simp
      go_simp
      refine hK _ ?_
      clear hK K
      refine wpQuiet_over2 7 HR.out ?_ ?_
      · intro o ho
        simp only [List.drop_succ_cons, List.drop_zero, List.take_succ_cons, List.take_zero, List.mem_cons, List.not_mem_nil, or_false] at ho
        rcases ho with rfl | rfl | rfl | rfl | rfl | rfl | rfl <;> exact ⟨by kernel_rfl, by kernel_rfl⟩
      intro R2 hR2
      simp only [List.drop_succ_cons, List.drop_zero] at hR2
      subst hR2
      refine BigFrame.wpQuiet_want (by kernel_rfl) (fun K hK => ?_)
      refine q_val (.bool false) (fun W hW => ?_) ?_
      · go_simp
      go_simp
      refine hK _ ?_
      clear hK K
      refine wpQuiet_nil ?_
      intro W hW
      have GW := hid (GC.out.below hW (by have := ZC.out; omega))
      have XW := hid (HXC.out.below hW)
      clear hW
      go_wp2_with fail
      go_end0
      exact ⟨rfl, XW.out, GW.out.done⟩
    · cases hi : (i == r)
      · rw [show seeN r n i j = n by unfold seeN; simp at hi; rw [if_neg (fun h => hi h.1)]]
        go_enter Tryd.func30, Tryd.ntmps30
        go_wp2_with fail
        refine wp_region_class (C := fun W => Below (w.alloc (ido 23 i j)).heap.size (w.alloc (ido 23 i j)) W) (by kernel_rfl) (by kernel_rfl) (bd (w.alloc (ido 23 i j)) 1) ?_
        refine BigFrame.wpQuiet_want (by kernel_rfl) (fun K hK => ?_)
        refine q_val (idv i j) (fun W hW => ?_) ?_
        · have c0 := (HPC.out.below hW).c0
          have c1 := (HPC.out.below hW).c1
          go_simp
        go_simp
        refine hK _ ?_
        clear hK K
        refine BigFrame.wpQuiet_want (by kernel_rfl) (fun K hK => ?_)
        refine q_call (f := 11) (args := #[idv i j]) (.bool true) (fun W => ?_) (fun W hW => ?_) ?_
        · go_simp
        · exact (xro_any i j W).mono fun e W' ⟨he, hb'⟩ => ⟨by rw [he, hro], bt hW (hb' ▸ ba _ _)⟩
        go_simp
        refine hK _ ?_
        clear hK K
        refine BigFrame.wpQuiet_want (by kernel_rfl) (fun K hK => ?_)
        refine q_val (.bool true) (fun W hW => ?_) ?_
        · go_simp
        go_simp
        refine hK _ ?_
        clear hK K
        refine BigFrame.wpQuiet_want (by kernel_rfl) (fun K hK => ?_)
        refine q_val (.pointer (some ⟨s, 0, none⟩)) (fun W hW => ?_) ?_
        · go_simp
        go_simp
        refine hK _ ?_
        clear hK K
        refine BigFrame.wpQuiet_want (by kernel_rfl) (fun K hK => ?_)
        refine q_val (.int .i64 i) (fun W hW => ?_) ?_
        · have c0 := (HPC.out.below hW).c0
          go_simp
        go_simp
        refine hK _ ?_
        clear hK K
        refine BigFrame.wpQuiet_want (by kernel_rfl) (fun K hK => ?_)
        refine q_val (.pointer (some ⟨b, 0, none⟩)) (fun W hW => ?_) ?_
        · go_simp
        go_simp
        refine hK _ ?_
        clear hK K
        refine BigFrame.wpQuiet_want (by kernel_rfl) (fun K hK => ?_)
        refine q_val (.pointer (some ⟨b, 0, none⟩)) (fun W hW => ?_) ?_
        · go_simp
        go_simp
        refine hK _ ?_
        clear hK K
        refine BigFrame.wpQuiet_want (by kernel_rfl) (fun K hK => ?_)
        refine q_val (.pointer (some ⟨b, 0, none⟩)) (fun W hW => ?_) ?_
        · go_simp
        go_simp
        refine hK _ ?_
        clear hK K
        refine BigFrame.wpQuiet_want (by kernel_rfl) (fun K hK => ?_)
        refine q_val (.int .i64 r) (fun W hW => ?_) ?_
        · have c0 := (HXC.out.below hW).c0
          go_simp
        go_simp
        refine hK _ ?_
        clear hK K
        refine BigFrame.wpQuiet_want (by kernel_rfl) (fun K hK => ?_)
        refine q_val (.bool false) (fun W hW => ?_) ?_
        · go_simp
        go_simp
        refine hK _ ?_
        clear hK K
        refine BigFrame.wpQuiet_want (by kernel_rfl) (fun K hK => ?_)
        refine q_val (.bool false) (fun W hW => ?_) ?_
        · go_simp
        go_simp
        refine hK _ ?_
        clear hK K
        refine wpQuiet_nil ?_
        intro W hW
        have GW := hid (GC.out.below hW (by have := ZC.out; omega))
        have XW := hid (HXC.out.below hW)
        clear hW
        go_wp2_with fail
        go_end0
        exact ⟨rfl, XW.out, GW.out.done⟩
      · have hir : i = r := by simpa using hi
        rcases (by omega : ¬ n < j ∨ n < j) with hnj | hnj
        · rw [show seeN r n i j = n by unfold seeN; rw [if_pos ⟨hir, hro⟩]; omega]
          clear hir
          go_enter Tryd.func30, Tryd.ntmps30
          go_wp2_with fail
          refine wp_region_class (C := fun W => Below (w.alloc (ido 23 i j)).heap.size (w.alloc (ido 23 i j)) W) (by kernel_rfl) (by kernel_rfl) (bd (w.alloc (ido 23 i j)) 1) ?_
          refine BigFrame.wpQuiet_want (by kernel_rfl) (fun K hK => ?_)
          refine q_val (idv i j) (fun W hW => ?_) ?_
          · have c0 := (HPC.out.below hW).c0
            have c1 := (HPC.out.below hW).c1
            go_simp
          go_simp
          refine hK _ ?_
          clear hK K
          refine BigFrame.wpQuiet_want (by kernel_rfl) (fun K hK => ?_)
          refine q_call (f := 11) (args := #[idv i j]) (.bool true) (fun W => ?_) (fun W hW => ?_) ?_
          · go_simp
          · exact (xro_any i j W).mono fun e W' ⟨he, hb'⟩ => ⟨by rw [he, hro], bt hW (hb' ▸ ba _ _)⟩
          go_simp
          refine hK _ ?_
          clear hK K
          refine BigFrame.wpQuiet_want (by kernel_rfl) (fun K hK => ?_)
          refine q_val (.bool true) (fun W hW => ?_) ?_
          · go_simp
          go_simp
          refine hK _ ?_
          clear hK K
          refine BigFrame.wpQuiet_want (by kernel_rfl) (fun K hK => ?_)
          refine q_val (.pointer (some ⟨s, 0, none⟩)) (fun W hW => ?_) ?_
          · go_simp
          go_simp
          refine hK _ ?_
          clear hK K
          refine BigFrame.wpQuiet_want (by kernel_rfl) (fun K hK => ?_)
          refine q_val (.int .i64 i) (fun W hW => ?_) ?_
          · have c0 := (HPC.out.below hW).c0
            go_simp
          go_simp
          refine hK _ ?_
          clear hK K
          refine BigFrame.wpQuiet_want (by kernel_rfl) (fun K hK => ?_)
          refine q_val (.pointer (some ⟨b, 0, none⟩)) (fun W hW => ?_) ?_
          · go_simp
          go_simp
          refine hK _ ?_
          clear hK K
          refine BigFrame.wpQuiet_want (by kernel_rfl) (fun K hK => ?_)
          refine q_val (.pointer (some ⟨b, 0, none⟩)) (fun W hW => ?_) ?_
          · go_simp
          go_simp
          refine hK _ ?_
          clear hK K
          refine BigFrame.wpQuiet_want (by kernel_rfl) (fun K hK => ?_)
          refine q_val (.pointer (some ⟨b, 0, none⟩)) (fun W hW => ?_) ?_
          · go_simp
          go_simp
          refine hK _ ?_
          clear hK K
          refine BigFrame.wpQuiet_want (by kernel_rfl) (fun K hK => ?_)
          refine q_val (.int .i64 r) (fun W hW => ?_) ?_
          · have c0 := (HXC.out.below hW).c0
            go_simp
          go_simp
          refine hK _ ?_
          clear hK K
          refine BigFrame.wpQuiet_want (by kernel_rfl) (fun K hK => ?_)
          refine q_val (.bool true) (fun W hW => ?_) ?_
          · go_simp
          go_simp
          refine hK _ ?_
          clear hK K
          refine BigFrame.wpQuiet_want (by kernel_rfl) (fun K hK => ?_)
          refine q_val (.bool true) (fun W hW => ?_) ?_
          · go_simp
          go_simp
          refine hK _ ?_
          clear hK K
          refine wpQuiet_nil ?_
          intro W hW
          have GW := hid (GC.out.below hW (by have := ZC.out; omega))
          have xw := HXC.out.below hW
          have pw := HPC.out.below hW
          have zw := Nat.le_trans ZC.out hW.size
          have m0 := xw.c2
          have m1 := pw.c1
          have m2 := xw.f 2
          have XW := hid xw
          have ZW := hid zw
          clear hW xw pw zw
          go_wp2_with fail
          go_region
          go_wp2_with fail
          go_end0
          refine ⟨rfl, ?_, ?_⟩
          · have := (XW.out.set2 (n)).drew
            first | exact this | (rw [show max n j = n by omega]; exact this)
          · first
              | exact ((GW.out.grown (grown_set W b 2 (.int .i64 (n))) ZW.out).drew).done
              | (rw [show max n j = n by omega]; exact ((GW.out.grown (grown_set W b 2 (.int .i64 (n))) ZW.out).drew).done)
        · rw [show seeN r n i j = j by unfold seeN; rw [if_pos ⟨hir, hro⟩]; omega]
          clear hir
          go_enter Tryd.func30, Tryd.ntmps30
          go_wp2_with fail
          refine wp_region_class (C := fun W => Below (w.alloc (ido 23 i j)).heap.size (w.alloc (ido 23 i j)) W) (by kernel_rfl) (by kernel_rfl) (bd (w.alloc (ido 23 i j)) 1) ?_
          refine BigFrame.wpQuiet_want (by kernel_rfl) (fun K hK => ?_)
          refine q_val (idv i j) (fun W hW => ?_) ?_
          · have c0 := (HPC.out.below hW).c0
            have c1 := (HPC.out.below hW).c1
            go_simp
          go_simp
          refine hK _ ?_
          clear hK K
          refine BigFrame.wpQuiet_want (by kernel_rfl) (fun K hK => ?_)
          refine q_call (f := 11) (args := #[idv i j]) (.bool true) (fun W => ?_) (fun W hW => ?_) ?_
          · go_simp
          · exact (xro_any i j W).mono fun e W' ⟨he, hb'⟩ => ⟨by rw [he, hro], bt hW (hb' ▸ ba _ _)⟩
          go_simp
          refine hK _ ?_
          clear hK K
          refine BigFrame.wpQuiet_want (by kernel_rfl) (fun K hK => ?_)
          refine q_val (.bool true) (fun W hW => ?_) ?_
          · go_simp
          go_simp
          refine hK _ ?_
          clear hK K
          refine BigFrame.wpQuiet_want (by kernel_rfl) (fun K hK => ?_)
          refine q_val (.pointer (some ⟨s, 0, none⟩)) (fun W hW => ?_) ?_
          · go_simp
          go_simp
          refine hK _ ?_
          clear hK K
          refine BigFrame.wpQuiet_want (by kernel_rfl) (fun K hK => ?_)
          refine q_val (.int .i64 i) (fun W hW => ?_) ?_
          · have c0 := (HPC.out.below hW).c0
            go_simp
          go_simp
          refine hK _ ?_
          clear hK K
          refine BigFrame.wpQuiet_want (by kernel_rfl) (fun K hK => ?_)
          refine q_val (.pointer (some ⟨b, 0, none⟩)) (fun W hW => ?_) ?_
          · go_simp
          go_simp
          refine hK _ ?_
          clear hK K
          refine BigFrame.wpQuiet_want (by kernel_rfl) (fun K hK => ?_)
          refine q_val (.pointer (some ⟨b, 0, none⟩)) (fun W hW => ?_) ?_
          · go_simp
          go_simp
          refine hK _ ?_
          clear hK K
          refine BigFrame.wpQuiet_want (by kernel_rfl) (fun K hK => ?_)
          refine q_val (.pointer (some ⟨b, 0, none⟩)) (fun W hW => ?_) ?_
          · go_simp
          go_simp
          refine hK _ ?_
          clear hK K
          refine BigFrame.wpQuiet_want (by kernel_rfl) (fun K hK => ?_)
          refine q_val (.int .i64 r) (fun W hW => ?_) ?_
          · have c0 := (HXC.out.below hW).c0
            go_simp
          go_simp
          refine hK _ ?_
          clear hK K
          refine BigFrame.wpQuiet_want (by kernel_rfl) (fun K hK => ?_)
          refine q_val (.bool true) (fun W hW => ?_) ?_
          · go_simp
          go_simp
          refine hK _ ?_
          clear hK K
          refine BigFrame.wpQuiet_want (by kernel_rfl) (fun K hK => ?_)
          refine q_val (.bool true) (fun W hW => ?_) ?_
          · go_simp
          go_simp
          refine hK _ ?_
          clear hK K
          refine wpQuiet_nil ?_
          intro W hW
          have GW := hid (GC.out.below hW (by have := ZC.out; omega))
          have xw := HXC.out.below hW
          have pw := HPC.out.below hW
          have zw := Nat.le_trans ZC.out hW.size
          have m0 := xw.c2
          have m1 := pw.c1
          have m2 := xw.f 2
          have XW := hid xw
          have ZW := hid zw
          clear hW xw pw zw
          go_wp2_with fail
          go_region
          go_wp2_with fail
          go_end0
          refine ⟨rfl, ?_, ?_⟩
          · have := (XW.out.set2 (j)).drew
            first | exact this | (rw [show max n j = j by omega]; exact this)
          · first
              | exact ((GW.out.grown (grown_set W b 2 (.int .i64 (j))) ZW.out).drew).done
              | (rw [show max n j = j by omega]; exact ((GW.out.grown (grown_set W b 2 (.int .i64 (j))) ZW.out).drew).done)
  · rcases (by omega : ¬ t < u ∨ t < u) with htu | htu
    · rw [show seeT t u = t by unfold seeT; simp at hu; rw [if_pos (by omega)]; omega]
      have hmax : max t u = t := by omega
      have HXC := hid (H1.out.set1 t)
      have HPC := hid (HP.out.other (grown_set _ b 1 (.int .i64 t)) hsb')
      have GC := hid (G0.out.grown (grown_set _ b 1 (.int .i64 t)) (ba w _).size)
      have ZC : Hid (w.heap.size ≤ ((w.alloc (ido 23 i j)).setCell ⟨b, 1, none⟩ (.int .i64 t)).heap.size) := by unfold Hid; rw [size_set]; exact (ba w _).size
      cases hro : ro i j
      · rw [show seeN r n i j = n by unfold seeN; rw [if_neg (fun h => by rw [hro] at h; simp at h)]]
        go_enter Tryd.func30, Tryd.ntmps30
        go_wp2_with fail
        refine wp_region_class (C := fun W => Below ((w.alloc (ido 23 i j)).setCell ⟨b, 1, none⟩ (.int .i64 t)).heap.size ((w.alloc (ido 23 i j)).setCell ⟨b, 1, none⟩ (.int .i64 t)) W) (by kernel_rfl) (by kernel_rfl) (bd ((w.alloc (ido 23 i j)).setCell ⟨b, 1, none⟩ (.int .i64 t)) 1) ?_
        refine wpQuiet_split 3 ?_
        intro R hR
        have HR := hid hR
        clear hR
        simp only [List.take_succ_cons, List.take_zero, List.cons_append, List.nil_append]
        refine BigFrame.wpQuiet_want (by kernel_rfl) (fun K hK => ?_)
        refine q_val (idv i j) (fun W hW => ?_) ?_
        · have c0 := (HPC.out.below hW).c0
          have c1 := (HPC.out.below hW).c1
          go_simp
        go_simp
        refine hK _ ?_
        clear hK K
        refine BigFrame.wpQuiet_want (by kernel_rfl) (fun K hK => ?_)
        refine q_call (f := 11) (args := #[idv i j]) (.bool false) (fun W => ?_) (fun W hW => ?_) ?_
        · go_simp
        · exact (xro_any i j W).mono fun e W' ⟨he, hb'⟩ => ⟨by rw [he, hro], bt hW (hb' ▸ ba _ _)⟩
        go_simp
        refine hK _ ?_
        clear hK K
        refine BigFrame.wpQuiet_want (by kernel_rfl) (fun K hK => ?_)
        refine q_val (.bool false) (fun W hW => ?_) ?_
        · go_simp
        go_simp
        refine hK _ ?_
        clear hK K
        refine wpQuiet_over2 7 HR.out ?_ ?_
        · intro o ho
          simp only [List.drop_succ_cons, List.drop_zero, List.take_succ_cons, List.take_zero, List.mem_cons, List.not_mem_nil, or_false] at ho
          rcases ho with rfl | rfl | rfl | rfl | rfl | rfl | rfl <;> exact ⟨by kernel_rfl, by kernel_rfl⟩
        intro R2 hR2
        simp only [List.drop_succ_cons, List.drop_zero] at hR2
        subst hR2
        refine BigFrame.wpQuiet_want (by kernel_rfl) (fun K hK => ?_)
        refine q_val (.bool false) (fun W hW => ?_) ?_
        · go_simp
        go_simp
        refine hK _ ?_
        clear hK K
        refine wpQuiet_nil ?_
        intro W hW
        have GW := hid (GC.out.below hW (by have := ZC.out; omega))
        have XW := hid (HXC.out.below hW)
        clear hW
        go_wp2_with fail
        go_end0
        exact ⟨rfl, XW.out, GW.out.done⟩
      · cases hi : (i == r)
        · rw [show seeN r n i j = n by unfold seeN; simp at hi; rw [if_neg (fun h => hi h.1)]]
          go_enter Tryd.func30, Tryd.ntmps30
          go_wp2_with fail
          refine wp_region_class (C := fun W => Below ((w.alloc (ido 23 i j)).setCell ⟨b, 1, none⟩ (.int .i64 t)).heap.size ((w.alloc (ido 23 i j)).setCell ⟨b, 1, none⟩ (.int .i64 t)) W) (by kernel_rfl) (by kernel_rfl) (bd ((w.alloc (ido 23 i j)).setCell ⟨b, 1, none⟩ (.int .i64 t)) 1) ?_
          refine BigFrame.wpQuiet_want (by kernel_rfl) (fun K hK => ?_)
          refine q_val (idv i j) (fun W hW => ?_) ?_
          · have c0 := (HPC.out.below hW).c0
            have c1 := (HPC.out.below hW).c1
            go_simp
          go_simp
          refine hK _ ?_
          clear hK K
          refine BigFrame.wpQuiet_want (by kernel_rfl) (fun K hK => ?_)
          refine q_call (f := 11) (args := #[idv i j]) (.bool true) (fun W => ?_) (fun W hW => ?_) ?_
          · go_simp
          · exact (xro_any i j W).mono fun e W' ⟨he, hb'⟩ => ⟨by rw [he, hro], bt hW (hb' ▸ ba _ _)⟩
          go_simp
          refine hK _ ?_
          clear hK K
          refine BigFrame.wpQuiet_want (by kernel_rfl) (fun K hK => ?_)
          refine q_val (.bool true) (fun W hW => ?_) ?_
          · go_simp
          go_simp
          refine hK _ ?_
          clear hK K
          refine BigFrame.wpQuiet_want (by kernel_rfl) (fun K hK => ?_)
          refine q_val (.pointer (some ⟨s, 0, none⟩)) (fun W hW => ?_) ?_
          · go_simp
          go_simp
          refine hK _ ?_
          clear hK K
          refine BigFrame.wpQuiet_want (by kernel_rfl) (fun K hK => ?_)
          refine q_val (.int .i64 i) (fun W hW => ?_) ?_
          · have c0 := (HPC.out.below hW).c0
            go_simp
          go_simp
          refine hK _ ?_
          clear hK K
          refine BigFrame.wpQuiet_want (by kernel_rfl) (fun K hK => ?_)
          refine q_val (.pointer (some ⟨b, 0, none⟩)) (fun W hW => ?_) ?_
          · go_simp
          go_simp
          refine hK _ ?_
          clear hK K
          refine BigFrame.wpQuiet_want (by kernel_rfl) (fun K hK => ?_)
          refine q_val (.pointer (some ⟨b, 0, none⟩)) (fun W hW => ?_) ?_
          · go_simp
          go_simp
          refine hK _ ?_
          clear hK K
          refine BigFrame.wpQuiet_want (by kernel_rfl) (fun K hK => ?_)
          refine q_val (.pointer (some ⟨b, 0, none⟩)) (fun W hW => ?_) ?_
          · go_simp
          go_simp
          refine hK _ ?_
          clear hK K
          refine BigFrame.wpQuiet_want (by kernel_rfl) (fun K hK => ?_)
          refine q_val (.int .i64 r) (fun W hW => ?_) ?_
          · have c0 := (HXC.out.below hW).c0
            go_simp
          go_simp
          refine hK _ ?_
          clear hK K
          refine BigFrame.wpQuiet_want (by kernel_rfl) (fun K hK => ?_)
          refine q_val (.bool false) (fun W hW => ?_) ?_
          · go_simp
          go_simp
          refine hK _ ?_
          clear hK K
          refine BigFrame.wpQuiet_want (by kernel_rfl) (fun K hK => ?_)
          refine q_val (.bool false) (fun W hW => ?_) ?_
          · go_simp
          go_simp
          refine hK _ ?_
          clear hK K
          refine wpQuiet_nil ?_
          intro W hW
          have GW := hid (GC.out.below hW (by have := ZC.out; omega))
          have XW := hid (HXC.out.below hW)
          clear hW
          go_wp2_with fail
          go_end0
          exact ⟨rfl, XW.out, GW.out.done⟩
        · have hir : i = r := by simpa using hi
          rcases (by omega : ¬ n < j ∨ n < j) with hnj | hnj
          · rw [show seeN r n i j = n by unfold seeN; rw [if_pos ⟨hir, hro⟩]; omega]
            clear hir
            go_enter Tryd.func30, Tryd.ntmps30
            go_wp2_with fail
            refine wp_region_class (C := fun W => Below ((w.alloc (ido 23 i j)).setCell ⟨b, 1, none⟩ (.int .i64 t)).heap.size ((w.alloc (ido 23 i j)).setCell ⟨b, 1, none⟩ (.int .i64 t)) W) (by kernel_rfl) (by kernel_rfl) (bd ((w.alloc (ido 23 i j)).setCell ⟨b, 1, none⟩ (.int .i64 t)) 1) ?_
            refine BigFrame.wpQuiet_want (by kernel_rfl) (fun K hK => ?_)
            refine q_val (idv i j) (fun W hW => ?_) ?_
            · have c0 := (HPC.out.below hW).c0
              have c1 := (HPC.out.below hW).c1
              go_simp
            go_simp
            refine hK _ ?_
            clear hK K
            refine BigFrame.wpQuiet_want (by kernel_rfl) (fun K hK => ?_)
            refine q_call (f := 11) (args := #[idv i j]) (.bool true) (fun W => ?_) (fun W hW => ?_) ?_
            · go_simp
            · exact (xro_any i j W).mono fun e W' ⟨he, hb'⟩ => ⟨by rw [he, hro], bt hW (hb' ▸ ba _ _)⟩
            go_simp
            refine hK _ ?_
            clear hK K
            refine BigFrame.wpQuiet_want (by kernel_rfl) (fun K hK => ?_)
            refine q_val (.bool true) (fun W hW => ?_) ?_
            · go_simp
            go_simp
            refine hK _ ?_
            clear hK K
            refine BigFrame.wpQuiet_want (by kernel_rfl) (fun K hK => ?_)
            refine q_val (.pointer (some ⟨s, 0, none⟩)) (fun W hW => ?_) ?_
            · go_simp
            go_simp
            refine hK _ ?_
            clear hK K
            refine BigFrame.wpQuiet_want (by kernel_rfl) (fun K hK => ?_)
            refine q_val (.int .i64 i) (fun W hW => ?_) ?_
            · have c0 := (HPC.out.below hW).c0
              go_simp
            go_simp
            refine hK _ ?_
            clear hK K
            refine BigFrame.wpQuiet_want (by kernel_rfl) (fun K hK => ?_)
            refine q_val (.pointer (some ⟨b, 0, none⟩)) (fun W hW => ?_) ?_
            · go_simp
            go_simp
            refine hK _ ?_
            clear hK K
            refine BigFrame.wpQuiet_want (by kernel_rfl) (fun K hK => ?_)
            refine q_val (.pointer (some ⟨b, 0, none⟩)) (fun W hW => ?_) ?_
            · go_simp
            go_simp
            refine hK _ ?_
            clear hK K
            refine BigFrame.wpQuiet_want (by kernel_rfl) (fun K hK => ?_)
            refine q_val (.pointer (some ⟨b, 0, none⟩)) (fun W hW => ?_) ?_
            · go_simp
            go_simp
            refine hK _ ?_
            clear hK K
            refine BigFrame.wpQuiet_want (by kernel_rfl) (fun K hK => ?_)
            refine q_val (.int .i64 r) (fun W hW => ?_) ?_
            · have c0 := (HXC.out.below hW).c0
              go_simp
            go_simp
            refine hK _ ?_
            clear hK K
            refine BigFrame.wpQuiet_want (by kernel_rfl) (fun K hK => ?_)
            refine q_val (.bool true) (fun W hW => ?_) ?_
            · go_simp
            go_simp
            refine hK _ ?_
            clear hK K
            refine BigFrame.wpQuiet_want (by kernel_rfl) (fun K hK => ?_)
            refine q_val (.bool true) (fun W hW => ?_) ?_
            · go_simp
            go_simp
            refine hK _ ?_
            clear hK K
            refine wpQuiet_nil ?_
            intro W hW
            have GW := hid (GC.out.below hW (by have := ZC.out; omega))
            have xw := HXC.out.below hW
            have pw := HPC.out.below hW
            have zw := Nat.le_trans ZC.out hW.size
            have m0 := xw.c2
            have m1 := pw.c1
            have m2 := xw.f 2
            have XW := hid xw
            have ZW := hid zw
            clear hW xw pw zw
            go_wp2_with fail
            go_region
            go_wp2_with fail
            go_end0
            refine ⟨rfl, ?_, ?_⟩
            · have := (XW.out.set2 (n)).drew
              first | exact this | (rw [show max n j = n by omega]; exact this)
            · first
                | exact ((GW.out.grown (grown_set W b 2 (.int .i64 (n))) ZW.out).drew).done
                | (rw [show max n j = n by omega]; exact ((GW.out.grown (grown_set W b 2 (.int .i64 (n))) ZW.out).drew).done)
          · rw [show seeN r n i j = j by unfold seeN; rw [if_pos ⟨hir, hro⟩]; omega]
            clear hir
            go_enter Tryd.func30, Tryd.ntmps30
            go_wp2_with fail
            refine wp_region_class (C := fun W => Below ((w.alloc (ido 23 i j)).setCell ⟨b, 1, none⟩ (.int .i64 t)).heap.size ((w.alloc (ido 23 i j)).setCell ⟨b, 1, none⟩ (.int .i64 t)) W) (by kernel_rfl) (by kernel_rfl) (bd ((w.alloc (ido 23 i j)).setCell ⟨b, 1, none⟩ (.int .i64 t)) 1) ?_
            refine BigFrame.wpQuiet_want (by kernel_rfl) (fun K hK => ?_)
            refine q_val (idv i j) (fun W hW => ?_) ?_
            · have c0 := (HPC.out.below hW).c0
              have c1 := (HPC.out.below hW).c1
              go_simp
            go_simp
            refine hK _ ?_
            clear hK K
            refine BigFrame.wpQuiet_want (by kernel_rfl) (fun K hK => ?_)
            refine q_call (f := 11) (args := #[idv i j]) (.bool true) (fun W => ?_) (fun W hW => ?_) ?_
            · go_simp
            · exact (xro_any i j W).mono fun e W' ⟨he, hb'⟩ => ⟨by rw [he, hro], bt hW (hb' ▸ ba _ _)⟩
            go_simp
            refine hK _ ?_
            clear hK K
            refine BigFrame.wpQuiet_want (by kernel_rfl) (fun K hK => ?_)
            refine q_val (.bool true) (fun W hW => ?_) ?_
            · go_simp
            go_simp
            refine hK _ ?_
            clear hK K
            refine BigFrame.wpQuiet_want (by kernel_rfl) (fun K hK => ?_)
            refine q_val (.pointer (some ⟨s, 0, none⟩)) (fun W hW => ?_) ?_
            · go_simp
            go_simp
            refine hK _ ?_
            clear hK K
            refine BigFrame.wpQuiet_want (by kernel_rfl) (fun K hK => ?_)
            refine q_val (.int .i64 i) (fun W hW => ?_) ?_
            · have c0 := (HPC.out.below hW).c0
              go_simp
            go_simp
            refine hK _ ?_
            clear hK K
            refine BigFrame.wpQuiet_want (by kernel_rfl) (fun K hK => ?_)
            refine q_val (.pointer (some ⟨b, 0, none⟩)) (fun W hW => ?_) ?_
            · go_simp
            go_simp
            refine hK _ ?_
            clear hK K
            refine BigFrame.wpQuiet_want (by kernel_rfl) (fun K hK => ?_)
            refine q_val (.pointer (some ⟨b, 0, none⟩)) (fun W hW => ?_) ?_
            · go_simp
            go_simp
            refine hK _ ?_
            clear hK K
            refine BigFrame.wpQuiet_want (by kernel_rfl) (fun K hK => ?_)
            refine q_val (.pointer (some ⟨b, 0, none⟩)) (fun W hW => ?_) ?_
            · go_simp
            go_simp
            refine hK _ ?_
            clear hK K
            refine BigFrame.wpQuiet_want (by kernel_rfl) (fun K hK => ?_)
            refine q_val (.int .i64 r) (fun W hW => ?_) ?_
            · have c0 := (HXC.out.below hW).c0
              go_simp
            go_simp
            refine hK _ ?_
            clear hK K
            refine BigFrame.wpQuiet_want (by kernel_rfl) (fun K hK => ?_)
            refine q_val (.bool true) (fun W hW => ?_) ?_
            · go_simp
            go_simp
            refine hK _ ?_
            clear hK K
            refine BigFrame.wpQuiet_want (by kernel_rfl) (fun K hK => ?_)
            refine q_val (.bool true) (fun W hW => ?_) ?_
            · go_simp
            go_simp
            refine hK _ ?_
            clear hK K
            refine wpQuiet_nil ?_
            intro W hW
            have GW := hid (GC.out.below hW (by have := ZC.out; omega))
            have xw := HXC.out.below hW
            have pw := HPC.out.below hW
            have zw := Nat.le_trans ZC.out hW.size
            have m0 := xw.c2
            have m1 := pw.c1
            have m2 := xw.f 2
            have XW := hid xw
            have ZW := hid zw
            clear hW xw pw zw
            go_wp2_with fail
            go_region
            go_wp2_with fail
            go_end0
            refine ⟨rfl, ?_, ?_⟩
            · have := (XW.out.set2 (j)).drew
              first | exact this | (rw [show max n j = j by omega]; exact this)
            · first
                | exact ((GW.out.grown (grown_set W b 2 (.int .i64 (j))) ZW.out).drew).done
                | (rw [show max n j = j by omega]; exact ((GW.out.grown (grown_set W b 2 (.int .i64 (j))) ZW.out).drew).done)
    · rw [show seeT t u = u by unfold seeT; simp at hu; rw [if_pos (by omega)]; omega]
      have hmax : max t u = u := by omega
      have HXC := hid (H1.out.set1 u)
      have HPC := hid (HP.out.other (grown_set _ b 1 (.int .i64 u)) hsb')
      have GC := hid (G0.out.grown (grown_set _ b 1 (.int .i64 u)) (ba w _).size)
      have ZC : Hid (w.heap.size ≤ ((w.alloc (ido 23 i j)).setCell ⟨b, 1, none⟩ (.int .i64 u)).heap.size) := by unfold Hid; rw [size_set]; exact (ba w _).size
      cases hro : ro i j
      · rw [show seeN r n i j = n by unfold seeN; rw [if_neg (fun h => by rw [hro] at h; simp at h)]]
        go_enter Tryd.func30, Tryd.ntmps30
        go_wp2_with fail
        refine wp_region_class (C := fun W => Below ((w.alloc (ido 23 i j)).setCell ⟨b, 1, none⟩ (.int .i64 u)).heap.size ((w.alloc (ido 23 i j)).setCell ⟨b, 1, none⟩ (.int .i64 u)) W) (by kernel_rfl) (by kernel_rfl) (bd ((w.alloc (ido 23 i j)).setCell ⟨b, 1, none⟩ (.int .i64 u)) 1) ?_
        refine wpQuiet_split 3 ?_
        intro R hR
        have HR := hid hR
        clear hR
        simp only [List.take_succ_cons, List.take_zero, List.cons_append, List.nil_append]
        refine BigFrame.wpQuiet_want (by kernel_rfl) (fun K hK => ?_)
        refine q_val (idv i j) (fun W hW => ?_) ?_
        · have c0 := (HPC.out.below hW).c0
          have c1 := (HPC.out.below hW).c1
          go_simp
        go_simp
        refine hK _ ?_
        clear hK K
        refine BigFrame.wpQuiet_want (by kernel_rfl) (fun K hK => ?_)
        refine q_call (f := 11) (args := #[idv i j]) (.bool false) (fun W => ?_) (fun W hW => ?_) ?_
        · go_simp
        · exact (xro_any i j W).mono fun e W' ⟨he, hb'⟩ => ⟨by rw [he, hro], bt hW (hb' ▸ ba _ _)⟩
        go_simp
        refine hK _ ?_
        clear hK K
        refine BigFrame.wpQuiet_want (by kernel_rfl) (fun K hK => ?_)
        refine q_val (.bool false) (fun W hW => ?_) ?_
        · go_simp
        go_simp
        refine hK _ ?_
        clear hK K
        refine wpQuiet_over2 7 HR.out ?_ ?_
        · intro o ho
          simp only [List.drop_succ_cons, List.drop_zero, List.take_succ_cons, List.take_zero, List.mem_cons, List.not_mem_nil, or_false] at ho
          rcases ho with rfl | rfl | rfl | rfl | rfl | rfl | rfl <;> exact ⟨by kernel_rfl, by kernel_rfl⟩
        intro R2 hR2
        simp only [List.drop_succ_cons, List.drop_zero] at hR2
        subst hR2
        refine BigFrame.wpQuiet_want (by kernel_rfl) (fun K hK => ?_)
        refine q_val (.bool false) (fun W hW => ?_) ?_
        · go_simp
        go_simp
        refine hK _ ?_
        clear hK K
        refine wpQuiet_nil ?_
        intro W hW
        have GW := hid (GC.out.below hW (by have := ZC.out; omega))
        have XW := hid (HXC.out.below hW)
        clear hW
        go_wp2_with fail
        go_end0
        exact ⟨rfl, XW.out, GW.out.done⟩
      · cases hi : (i == r)
        · rw [show seeN r n i j = n by unfold seeN; simp at hi; rw [if_neg (fun h => hi h.1)]]
          go_enter Tryd.func30, Tryd.ntmps30
          go_wp2_with fail
          refine wp_region_class (C := fun W => Below ((w.alloc (ido 23 i j)).setCell ⟨b, 1, none⟩ (.int .i64 u)).heap.size ((w.alloc (ido 23 i j)).setCell ⟨b, 1, none⟩ (.int .i64 u)) W) (by kernel_rfl) (by kernel_rfl) (bd ((w.alloc (ido 23 i j)).setCell ⟨b, 1, none⟩ (.int .i64 u)) 1) ?_
          refine BigFrame.wpQuiet_want (by kernel_rfl) (fun K hK => ?_)
          refine q_val (idv i j) (fun W hW => ?_) ?_
          · have c0 := (HPC.out.below hW).c0
            have c1 := (HPC.out.below hW).c1
            go_simp
          go_simp
          refine hK _ ?_
          clear hK K
          refine BigFrame.wpQuiet_want (by kernel_rfl) (fun K hK => ?_)
          refine q_call (f := 11) (args := #[idv i j]) (.bool true) (fun W => ?_) (fun W hW => ?_) ?_
          · go_simp
          · exact (xro_any i j W).mono fun e W' ⟨he, hb'⟩ => ⟨by rw [he, hro], bt hW (hb' ▸ ba _ _)⟩
          go_simp
          refine hK _ ?_
          clear hK K
          refine BigFrame.wpQuiet_want (by kernel_rfl) (fun K hK => ?_)
          refine q_val (.bool true) (fun W hW => ?_) ?_
          · go_simp
          go_simp
          refine hK _ ?_
          clear hK K
          refine BigFrame.wpQuiet_want (by kernel_rfl) (fun K hK => ?_)
          refine q_val (.pointer (some ⟨s, 0, none⟩)) (fun W hW => ?_) ?_
          · go_simp
          go_simp
          refine hK _ ?_
          clear hK K
          refine BigFrame.wpQuiet_want (by kernel_rfl) (fun K hK => ?_)
          refine q_val (.int .i64 i) (fun W hW => ?_) ?_
          · have c0 := (HPC.out.below hW).c0
            go_simp
          go_simp
          refine hK _ ?_
          clear hK K
          refine BigFrame.wpQuiet_want (by kernel_rfl) (fun K hK => ?_)
          refine q_val (.pointer (some ⟨b, 0, none⟩)) (fun W hW => ?_) ?_
          · go_simp
          go_simp
          refine hK _ ?_
          clear hK K
          refine BigFrame.wpQuiet_want (by kernel_rfl) (fun K hK => ?_)
          refine q_val (.pointer (some ⟨b, 0, none⟩)) (fun W hW => ?_) ?_
          · go_simp
          go_simp
          refine hK _ ?_
          clear hK K
          refine BigFrame.wpQuiet_want (by kernel_rfl) (fun K hK => ?_)
          refine q_val (.pointer (some ⟨b, 0, none⟩)) (fun W hW => ?_) ?_
          · go_simp
          go_simp
          refine hK _ ?_
          clear hK K
          refine BigFrame.wpQuiet_want (by kernel_rfl) (fun K hK => ?_)
          refine q_val (.int .i64 r) (fun W hW => ?_) ?_
          · have c0 := (HXC.out.below hW).c0
            go_simp
          go_simp
          refine hK _ ?_
          clear hK K
          refine BigFrame.wpQuiet_want (by kernel_rfl) (fun K hK => ?_)
          refine q_val (.bool false) (fun W hW => ?_) ?_
          · go_simp
          go_simp
          refine hK _ ?_
          clear hK K
          refine BigFrame.wpQuiet_want (by kernel_rfl) (fun K hK => ?_)
          refine q_val (.bool false) (fun W hW => ?_) ?_
          · go_simp
          go_simp
          refine hK _ ?_
          clear hK K
          refine wpQuiet_nil ?_
          intro W hW
          have GW := hid (GC.out.below hW (by have := ZC.out; omega))
          have XW := hid (HXC.out.below hW)
          clear hW
          go_wp2_with fail
          go_end0
          exact ⟨rfl, XW.out, GW.out.done⟩
        · have hir : i = r := by simpa using hi
          rcases (by omega : ¬ n < j ∨ n < j) with hnj | hnj
          · rw [show seeN r n i j = n by unfold seeN; rw [if_pos ⟨hir, hro⟩]; omega]
            clear hir
            go_enter Tryd.func30, Tryd.ntmps30
            go_wp2_with fail
            refine wp_region_class (C := fun W => Below ((w.alloc (ido 23 i j)).setCell ⟨b, 1, none⟩ (.int .i64 u)).heap.size ((w.alloc (ido 23 i j)).setCell ⟨b, 1, none⟩ (.int .i64 u)) W) (by kernel_rfl) (by kernel_rfl) (bd ((w.alloc (ido 23 i j)).setCell ⟨b, 1, none⟩ (.int .i64 u)) 1) ?_
            refine BigFrame.wpQuiet_want (by kernel_rfl) (fun K hK => ?_)
            refine q_val (idv i j) (fun W hW => ?_) ?_
            · have c0 := (HPC.out.below hW).c0
              have c1 := (HPC.out.below hW).c1
              go_simp
            go_simp
            refine hK _ ?_
            clear hK K
            refine BigFrame.wpQuiet_want (by kernel_rfl) (fun K hK => ?_)
            refine q_call (f := 11) (args := #[idv i j]) (.bool true) (fun W => ?_) (fun W hW => ?_) ?_
            · go_simp
            · exact (xro_any i j W).mono fun e W' ⟨he, hb'⟩ => ⟨by rw [he, hro], bt hW (hb' ▸ ba _ _)⟩
            go_simp
            refine hK _ ?_
            clear hK K
            refine BigFrame.wpQuiet_want (by kernel_rfl) (fun K hK => ?_)
            refine q_val (.bool true) (fun W hW => ?_) ?_
            · go_simp
            go_simp
            refine hK _ ?_
            clear hK K
            refine BigFrame.wpQuiet_want (by kernel_rfl) (fun K hK => ?_)
            refine q_val (.pointer (some ⟨s, 0, none⟩)) (fun W hW => ?_) ?_
            · go_simp
            go_simp
            refine hK _ ?_
            clear hK K
            refine BigFrame.wpQuiet_want (by kernel_rfl) (fun K hK => ?_)
            refine q_val (.int .i64 i) (fun W hW => ?_) ?_
            · have c0 := (HPC.out.below hW).c0
              go_simp
            go_simp
            refine hK _ ?_
            clear hK K
            refine BigFrame.wpQuiet_want (by kernel_rfl) (fun K hK => ?_)
            refine q_val (.pointer (some ⟨b, 0, none⟩)) (fun W hW => ?_) ?_
            · go_simp
            go_simp
            refine hK _ ?_
            clear hK K
            refine BigFrame.wpQuiet_want (by kernel_rfl) (fun K hK => ?_)
            refine q_val (.pointer (some ⟨b, 0, none⟩)) (fun W hW => ?_) ?_
            · go_simp
            go_simp
            refine hK _ ?_
            clear hK K
            refine BigFrame.wpQuiet_want (by kernel_rfl) (fun K hK => ?_)
            refine q_val (.pointer (some ⟨b, 0, none⟩)) (fun W hW => ?_) ?_
            · go_simp
            go_simp
            refine hK _ ?_
            clear hK K
            refine BigFrame.wpQuiet_want (by kernel_rfl) (fun K hK => ?_)
            refine q_val (.int .i64 r) (fun W hW => ?_) ?_
            · have c0 := (HXC.out.below hW).c0
              go_simp
            go_simp
            refine hK _ ?_
            clear hK K
            refine BigFrame.wpQuiet_want (by kernel_rfl) (fun K hK => ?_)
            refine q_val (.bool true) (fun W hW => ?_) ?_
            · go_simp
            go_simp
            refine hK _ ?_
            clear hK K
            refine BigFrame.wpQuiet_want (by kernel_rfl) (fun K hK => ?_)
            refine q_val (.bool true) (fun W hW => ?_) ?_
            · go_simp
            go_simp
            refine hK _ ?_
            clear hK K
            refine wpQuiet_nil ?_
            intro W hW
            have GW := hid (GC.out.below hW (by have := ZC.out; omega))
            have xw := HXC.out.below hW
            have pw := HPC.out.below hW
            have zw := Nat.le_trans ZC.out hW.size
            have m0 := xw.c2
            have m1 := pw.c1
            have m2 := xw.f 2
            have XW := hid xw
            have ZW := hid zw
            clear hW xw pw zw
            go_wp2_with fail
            go_region
            go_wp2_with fail
            go_end0
            refine ⟨rfl, ?_, ?_⟩
            · have := (XW.out.set2 (n)).drew
              first | exact this | (rw [show max n j = n by omega]; exact this)
            · first
                | exact ((GW.out.grown (grown_set W b 2 (.int .i64 (n))) ZW.out).drew).done
                | (rw [show max n j = n by omega]; exact ((GW.out.grown (grown_set W b 2 (.int .i64 (n))) ZW.out).drew).done)
          · rw [show seeN r n i j = j by unfold seeN; rw [if_pos ⟨hir, hro⟩]; omega]
            clear hir
            go_enter Tryd.func30, Tryd.ntmps30
            go_wp2_with fail
            refine wp_region_class (C := fun W => Below ((w.alloc (ido 23 i j)).setCell ⟨b, 1, none⟩ (.int .i64 u)).heap.size ((w.alloc (ido 23 i j)).setCell ⟨b, 1, none⟩ (.int .i64 u)) W) (by kernel_rfl) (by kernel_rfl) (bd ((w.alloc (ido 23 i j)).setCell ⟨b, 1, none⟩ (.int .i64 u)) 1) ?_
            refine BigFrame.wpQuiet_want (by kernel_rfl) (fun K hK => ?_)
            refine q_val (idv i j) (fun W hW => ?_) ?_
            · have c0 := (HPC.out.below hW).c0
              have c1 := (HPC.out.below hW).c1
              go_simp
            go_simp
            refine hK _ ?_
            clear hK K
            refine BigFrame.wpQuiet_want (by kernel_rfl) (fun K hK => ?_)
            refine q_call (f := 11) (args := #[idv i j]) (.bool true) (fun W => ?_) (fun W hW => ?_) ?_
            · go_simp
            · exact (xro_any i j W).mono fun e W' ⟨he, hb'⟩ => ⟨by rw [he, hro], bt hW (hb' ▸ ba _ _)⟩
            go_simp
            refine hK _ ?_
            clear hK K
            refine BigFrame.wpQuiet_want (by kernel_rfl) (fun K hK => ?_)
            refine q_val (.bool true) (fun W hW => ?_) ?_
            · go_simp
            go_simp
            refine hK _ ?_
            clear hK K
            refine BigFrame.wpQuiet_want (by kernel_rfl) (fun K hK => ?_)
            refine q_val (.pointer (some ⟨s, 0, none⟩)) (fun W hW => ?_) ?_
            · go_simp
            go_simp
            refine hK _ ?_
            clear hK K
            refine BigFrame.wpQuiet_want (by kernel_rfl) (fun K hK => ?_)
            refine q_val (.int .i64 i) (fun W hW => ?_) ?_
            · have c0 := (HPC.out.below hW).c0
              go_simp
            go_simp
            refine hK _ ?_
            clear hK K
            refine BigFrame.wpQuiet_want (by kernel_rfl) (fun K hK => ?_)
            refine q_val (.pointer (some ⟨b, 0, none⟩)) (fun W hW => ?_) ?_
            · go_simp
            go_simp
            refine hK _ ?_
            clear hK K
            refine BigFrame.wpQuiet_want (by kernel_rfl) (fun K hK => ?_)
            refine q_val (.pointer (some ⟨b, 0, none⟩)) (fun W hW => ?_) ?_
            · go_simp
            go_simp
            refine hK _ ?_
            clear hK K
            refine BigFrame.wpQuiet_want (by kernel_rfl) (fun K hK => ?_)
            refine q_val (.pointer (some ⟨b, 0, none⟩)) (fun W hW => ?_) ?_
            · go_simp
            go_simp
            refine hK _ ?_
            clear hK K
            refine BigFrame.wpQuiet_want (by kernel_rfl) (fun K hK => ?_)
            refine q_val (.int .i64 r) (fun W hW => ?_) ?_
            · have c0 := (HXC.out.below hW).c0
              go_simp
            go_simp
            refine hK _ ?_
            clear hK K
            refine BigFrame.wpQuiet_want (by kernel_rfl) (fun K hK => ?_)
            refine q_val (.bool true) (fun W hW => ?_) ?_
            · go_simp
            go_simp
            refine hK _ ?_
            clear hK K
            refine BigFrame.wpQuiet_want (by kernel_rfl) (fun K hK => ?_)
            refine q_val (.bool true) (fun W hW => ?_) ?_
            · go_simp
            go_simp
            refine hK _ ?_
            clear hK K
            refine wpQuiet_nil ?_
            intro W hW
            have GW := hid (GC.out.below hW (by have := ZC.out; omega))
            have xw := HXC.out.below hW
            have pw := HPC.out.below hW
            have zw := Nat.le_trans ZC.out hW.size
            have m0 := xw.c2
            have m1 := pw.c1
            have m2 := xw.f 2
            have XW := hid xw
            have ZW := hid zw
            clear hW xw pw zw
            go_wp2_with fail
            go_region
            go_wp2_with fail
            go_end0
            refine ⟨rfl, ?_, ?_⟩
            · have := (XW.out.set2 (j)).drew
              first | exact this | (rw [show max n j = j by omega]; exact this)
            · first
                | exact ((GW.out.grown (grown_set W b 2 (.int .i64 (j))) ZW.out).drew).done
                | (rw [show max n j = j by omega]; exact ((GW.out.grown (grown_set W b 2 (.int .i64 (j))) ZW.out).drew).done)

end Go.Proofs.YtbcodkokacpioaaDoor
