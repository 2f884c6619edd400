/-
  StampAsks: every Right, Order and Show answers what the document says: for every two names, two stamps and a character, where the package variables hold what the program lays there.
-/
import Derived.Test.YtbcodkokacpioaaDoorSAlive
import Derived.Test.YtbcodkokacpioaaDoorSOrd
import Derived.Test.YtbcodkokacpioaaDoorXShow
import Derived.Test.YtbcodkokacpioaaDoorSQuiet
namespace Go.Proofs.YtbcodkokacpioaaDoor
open Go.RowKit
set_option linter.unusedVariables false

set_option maxHeartbeats 8000000 in
set_option maxRecDepth 100000 in
theorem asks_walk (a1 a2 b1 b2 x1 x2 y1 y2 c1 c2 c3 : Int) (w : World) (hL : Lay w) :
    Calls Tryd.prog 3 #[idv a1 a2, idv b1 b2, idv x1 x2, idv y1 y2, chv c1 c2 c3] w fun e w' => e = .returned (.bool true) ∧ Below w.heap.size w w' := by
  have q0 := (((((Pr.new 23 w a1 a2).below (ba _ (ido 23 b1 b2))).below (ba _ (ido 25 x1 x2))).below (ba _ (ido 25 y1 y2))).below (ba _ (.cells #[.int .i64 c1, .int .i64 c2, .int .i64 c3] 27)))
  have q1 := ((((Pr.new 23 (w.alloc (ido 23 a1 a2)) b1 b2).below (ba _ (ido 25 x1 x2))).below (ba _ (ido 25 y1 y2))).below (ba _ (.cells #[.int .i64 c1, .int .i64 c2, .int .i64 c3] 27)))
  rw [show (w.alloc (ido 23 a1 a2)).heap.size = w.heap.size + 1 by simp] at q1
  have q2 := (((Pr.new 25 ((w.alloc (ido 23 a1 a2)).alloc (ido 23 b1 b2)) x1 x2).below (ba _ (ido 25 y1 y2))).below (ba _ (.cells #[.int .i64 c1, .int .i64 c2, .int .i64 c3] 27)))
  rw [show ((w.alloc (ido 23 a1 a2)).alloc (ido 23 b1 b2)).heap.size = w.heap.size + 1 + 1 by simp] at q2
  have q3 := ((Pr.new 25 (((w.alloc (ido 23 a1 a2)).alloc (ido 23 b1 b2)).alloc (ido 25 x1 x2)) y1 y2).below (ba _ (.cells #[.int .i64 c1, .int .i64 c2, .int .i64 c3] 27)))
  rw [show (((w.alloc (ido 23 a1 a2)).alloc (ido 23 b1 b2)).alloc (ido 25 x1 x2)).heap.size = w.heap.size + 1 + 1 + 1 by simp] at q3
  have q4 := heap_alloc_new ((((w.alloc (ido 23 a1 a2)).alloc (ido 23 b1 b2)).alloc (ido 25 x1 x2)).alloc (ido 25 y1 y2)) (.cells #[.int .i64 c1, .int .i64 c2, .int .i64 c3] 27)
  rw [show ((((w.alloc (ido 23 a1 a2)).alloc (ido 23 b1 b2)).alloc (ido 25 x1 x2)).alloc (ido 25 y1 y2)).heap.size = w.heap.size + 1 + 1 + 1 + 1 by simp] at q4
  have B0 := hid (bt (ba w (ido 23 a1 a2)) (bt (ba _ (ido 23 b1 b2)) (bt (ba _ (ido 25 x1 x2)) (bt (ba _ (ido 25 y1 y2)) (ba _ (.cells #[.int .i64 c1, .int .i64 c2, .int .i64 c3] 27))))))
  have HA := hid (alive_any _ (hL.below B0.out))
  have HL := hid hL
  have Q0 := hid q0
  have Q1 := hid q1
  have Q2 := hid q2
  have Q3 := hid q3
  have Q4 := hid q4
  clear q0 q1 q2 q3 q4 hL
  obtain ⟨R1, h1⟩ : ∃ X, ro a1 a2 = X := ⟨_, rfl⟩
  obtain ⟨R2, h2⟩ : ∃ X, rb a1 a2 = X := ⟨_, rfl⟩
  obtain ⟨R3, h3⟩ : ∃ X, rs x1 x2 = X := ⟨_, rfl⟩
  obtain ⟨R4, h4⟩ : ∃ X, rc c1 c2 c3 = X := ⟨_, rfl⟩
  obtain ⟨X1, h5⟩ : ∃ X, od a1 a2 b1 b2 = X := ⟨_, rfl⟩
  obtain ⟨X2, h6⟩ : ∃ X, od x1 x2 y1 y2 = X := ⟨_, rfl⟩
  obtain ⟨S1, h7⟩ : ∃ S : ByteArray, (⟨(sh a1 a2).toArray⟩ : ByteArray) = S := ⟨_, rfl⟩
  have H1 := hid h1
  have H2 := hid h2
  have H3 := hid h3
  have H4 := hid h4
  have H5 := hid h5
  have H6 := hid h6
  have H7 := hid h7
  clear h1 h2 h3 h4 h5 h6 h7
  obtain ⟨s, hs⟩ : ∃ s, w.heap.size = s := ⟨_, rfl⟩
  go_enter Tryd.func3, Tryd.ntmps3
  go_wp2_with fail
  refine HA.out.mono ?_
  rintro e w1 ⟨rfl, b1'⟩
  have B1 := hid (bt B0.out b1')
  have PA := hid (Q0.out.below b1')
  have PB := hid (Q1.out.below b1')
  have PX := hid (Q2.out.below b1')
  have PY := hid (Q3.out.below b1')
  rw [hs] at PA PB PX PY
  have hc4 := Q4.out
  rw [hs] at hc4
  have hcl : s + 1 + 1 + 1 + 1 < w1.heap.size := Nat.lt_of_lt_of_le (Array.getElem?_eq_some_iff.1 hc4).1 b1'.size
  have hc5 := (b1'.block _ (Array.getElem?_eq_some_iff.1 hc4).1).trans hc4
  have PC := hid (fun (W : World) (hW : Below w1.heap.size w1 W) => And.intro
    ((cell_of_row W _ 0 _ _ _ ((hW.block _ hcl).trans hc5)).trans rfl : W.cell? ⟨s + 1 + 1 + 1 + 1, 0, none⟩ = some (.int .i64 c1)) (And.intro
    ((cell_of_row W _ 1 _ _ _ ((hW.block _ hcl).trans hc5)).trans rfl : W.cell? ⟨s + 1 + 1 + 1 + 1, 1, none⟩ = some (.int .i64 c2))
    ((cell_of_row W _ 2 _ _ _ ((hW.block _ hcl).trans hc5)).trans rfl : W.cell? ⟨s + 1 + 1 + 1 + 1, 2, none⟩ = some (.int .i64 c3))))
  clear b1' Q0 Q1 Q2 Q3 Q4 HA hc4 hc5 hcl
  go_wp2_with fail
  refine wp_region_class (C := fun W => Below w1.heap.size w1 W) (by kernel_rfl) (by kernel_rfl) (bd w1 1) ?_
  refine BigFrame.wpQuiet_want (by kernel_rfl) (fun K hK => ?_)
  refine q_val (idv a1 a2) (fun W hW => ?_) ?_
  · have c0 := (PA.out.below hW).c0
    have c1 := (PA.out.below hW).c1
    go_simp
  go_simp
  refine hK _ ?_
  clear hK K
  refine BigFrame.wpQuiet_want (by kernel_rfl) (fun K hK => ?_)
  refine q_call (f := 10) (args := #[idv a1 a2]) (.bool R1) (fun W => ?_) (fun W hW => ?_) ?_
  · go_simp
  · exact (ro_any a1 a2 W).mono fun e W' ⟨he, hb'⟩ => ⟨by rw [he, H1.out], bt hW (hb' ▸ ba _ _)⟩
  go_simp
  refine hK _ ?_
  clear hK K
  refine BigFrame.wpQuiet_want (by kernel_rfl) (fun K hK => ?_)
  refine q_val (idv a1 a2) (fun W hW => ?_) ?_
  · have c0 := (PA.out.below hW).c0
    have c1 := (PA.out.below hW).c1
    go_simp
  go_simp
  refine hK _ ?_
  clear hK K
  refine BigFrame.wpQuiet_want (by kernel_rfl) (fun K hK => ?_)
  refine q_call (f := 11) (args := #[idv a1 a2]) (.bool R1) (fun W => ?_) (fun W hW => ?_) ?_
  · go_simp
  · exact (xro_any a1 a2 W).mono fun e W' ⟨he, hb'⟩ => ⟨by rw [he, H1.out], bt hW (hb' ▸ ba _ _)⟩
  go_simp
  refine hK _ ?_
  clear hK K
  refine BigFrame.wpQuiet_want (by kernel_rfl) (fun K hK => ?_)
  refine q_val (.bool true) (fun W hW => ?_) ?_
  · go_simp
  go_simp
  refine hK _ ?_
  clear hK K
  refine BigFrame.wpQuiet_want (by kernel_rfl) (fun K hK => ?_)
  refine q_val (.bool true) (fun W hW => ?_) ?_
  · go_simp
  go_simp
  refine hK _ ?_
  clear hK K
  refine BigFrame.wpQuiet_want (by kernel_rfl) (fun K hK => ?_)
  refine q_val (idv a1 a2) (fun W hW => ?_) ?_
  · have c0 := (PA.out.below hW).c0
    have c1 := (PA.out.below hW).c1
    go_simp
  go_simp
  refine hK _ ?_
  clear hK K
  refine BigFrame.wpQuiet_want (by kernel_rfl) (fun K hK => ?_)
  refine q_call (f := 12) (args := #[idv a1 a2]) (.bool R2) (fun W => ?_) (fun W hW => ?_) ?_
  · go_simp
  · exact (rb_any a1 a2 W (HL.out.below (bt B1.out hW))).mono fun e W' ⟨he, hb'⟩ => ⟨by rw [he, H2.out], bt hW (hb')⟩
  go_simp
  refine hK _ ?_
  clear hK K
  refine BigFrame.wpQuiet_want (by kernel_rfl) (fun K hK => ?_)
  refine q_val (idv a1 a2) (fun W hW => ?_) ?_
  · have c0 := (PA.out.below hW).c0
    have c1 := (PA.out.below hW).c1
    go_simp
  go_simp
  refine hK _ ?_
  clear hK K
  refine BigFrame.wpQuiet_want (by kernel_rfl) (fun K hK => ?_)
  refine q_call (f := 13) (args := #[idv a1 a2]) (.bool R2) (fun W => ?_) (fun W hW => ?_) ?_
  · go_simp
  · exact (xrb_any a1 a2 W).mono fun e W' ⟨he, hb'⟩ => ⟨by rw [he, H2.out], bt hW (hb')⟩
  go_simp
  refine hK _ ?_
  clear hK K
  refine BigFrame.wpQuiet_want (by kernel_rfl) (fun K hK => ?_)
  refine q_val (.bool true) (fun W hW => ?_) ?_
  · go_simp
  go_simp
  refine hK _ ?_
  clear hK K
  refine BigFrame.wpQuiet_want (by kernel_rfl) (fun K hK => ?_)
  refine q_val (.bool true) (fun W hW => ?_) ?_
  · go_simp
  go_simp
  refine hK _ ?_
  clear hK K
  refine BigFrame.wpQuiet_want (by kernel_rfl) (fun K hK => ?_)
  refine q_val (.bool true) (fun W hW => ?_) ?_
  · go_simp
  go_simp
  refine hK _ ?_
  clear hK K
  refine BigFrame.wpQuiet_want (by kernel_rfl) (fun K hK => ?_)
  refine q_val (idv x1 x2) (fun W hW => ?_) ?_
  · have c0 := (PX.out.below hW).c0
    have c1 := (PX.out.below hW).c1
    go_simp
  go_simp
  refine hK _ ?_
  clear hK K
  refine BigFrame.wpQuiet_want (by kernel_rfl) (fun K hK => ?_)
  refine q_call (f := 14) (args := #[idv x1 x2]) (.bool R3) (fun W => ?_) (fun W hW => ?_) ?_
  · go_simp
  · exact (rs_any x1 x2 W).mono fun e W' ⟨he, hb'⟩ => ⟨by rw [he, H3.out], bt hW (hb' ▸ ba _ _)⟩
  go_simp
  refine hK _ ?_
  clear hK K
  refine BigFrame.wpQuiet_want (by kernel_rfl) (fun K hK => ?_)
  refine q_val (idv x1 x2) (fun W hW => ?_) ?_
  · have c0 := (PX.out.below hW).c0
    have c1 := (PX.out.below hW).c1
    go_simp
  go_simp
  refine hK _ ?_
  clear hK K
  refine BigFrame.wpQuiet_want (by kernel_rfl) (fun K hK => ?_)
  refine q_call (f := 15) (args := #[idv x1 x2]) (.bool R3) (fun W => ?_) (fun W hW => ?_) ?_
  · go_simp
  · exact (xrs_any x1 x2 W).mono fun e W' ⟨he, hb'⟩ => ⟨by rw [he, H3.out], bt hW (hb' ▸ ba _ _)⟩
  go_simp
  refine hK _ ?_
  clear hK K
  refine BigFrame.wpQuiet_want (by kernel_rfl) (fun K hK => ?_)
  refine q_val (.bool true) (fun W hW => ?_) ?_
  · go_simp
  go_simp
  refine hK _ ?_
  clear hK K
  refine BigFrame.wpQuiet_want (by kernel_rfl) (fun K hK => ?_)
  refine q_val (.bool true) (fun W hW => ?_) ?_
  · go_simp
  go_simp
  refine hK _ ?_
  clear hK K
  refine BigFrame.wpQuiet_want (by kernel_rfl) (fun K hK => ?_)
  refine q_val (.bool true) (fun W hW => ?_) ?_
  · go_simp
  go_simp
  refine hK _ ?_
  clear hK K
  refine BigFrame.wpQuiet_want (by kernel_rfl) (fun K hK => ?_)
  refine q_val (chv c1 c2 c3) (fun W hW => ?_) ?_
  · obtain ⟨c0, c1, c2⟩ := PC.out W hW
    go_simp
  go_simp
  refine hK _ ?_
  clear hK K
  refine BigFrame.wpQuiet_want (by kernel_rfl) (fun K hK => ?_)
  refine q_call (f := 16) (args := #[chv c1 c2 c3]) (.bool R4) (fun W => ?_) (fun W hW => ?_) ?_
  · go_simp
  · exact (rc_any c1 c2 c3 W).mono fun e W' ⟨he, hb'⟩ => ⟨by rw [he, H4.out], bt hW (hb')⟩
  go_simp
  refine hK _ ?_
  clear hK K
  refine BigFrame.wpQuiet_want (by kernel_rfl) (fun K hK => ?_)
  refine q_val (chv c1 c2 c3) (fun W hW => ?_) ?_
  · obtain ⟨c0, c1, c2⟩ := PC.out W hW
    go_simp
  go_simp
  refine hK _ ?_
  clear hK K
  refine BigFrame.wpQuiet_want (by kernel_rfl) (fun K hK => ?_)
  refine q_call (f := 17) (args := #[chv c1 c2 c3]) (.bool R4) (fun W => ?_) (fun W hW => ?_) ?_
  · go_simp
  · exact (xrc_any c1 c2 c3 W).mono fun e W' ⟨he, hb'⟩ => ⟨by rw [he, H4.out], bt hW (hb')⟩
  go_simp
  refine hK _ ?_
  clear hK K
  refine BigFrame.wpQuiet_want (by kernel_rfl) (fun K hK => ?_)
  refine q_val (.bool true) (fun W hW => ?_) ?_
  · go_simp
  go_simp
  refine hK _ ?_
  clear hK K
  refine BigFrame.wpQuiet_want (by kernel_rfl) (fun K hK => ?_)
  refine q_val (.bool true) (fun W hW => ?_) ?_
  · go_simp
  go_simp
  refine hK _ ?_
  clear hK K
  refine BigFrame.wpQuiet_want (by kernel_rfl) (fun K hK => ?_)
  refine q_val (.bool true) (fun W hW => ?_) ?_
  · go_simp
  go_simp
  refine hK _ ?_
  clear hK K
  refine BigFrame.wpQuiet_want (by kernel_rfl) (fun K hK => ?_)
  refine q_val (idv a1 a2) (fun W hW => ?_) ?_
  · have c0 := (PA.out.below hW).c0
    have c1 := (PA.out.below hW).c1
    go_simp
  go_simp
  refine hK _ ?_
  clear hK K
  refine BigFrame.wpQuiet_want (by kernel_rfl) (fun K hK => ?_)
  refine q_val (idv b1 b2) (fun W hW => ?_) ?_
  · have c0 := (PB.out.below hW).c0
    have c1 := (PB.out.below hW).c1
    go_simp
  go_simp
  refine hK _ ?_
  clear hK K
  refine BigFrame.wpQuiet_want (by kernel_rfl) (fun K hK => ?_)
  refine q_call (f := 18) (args := #[idv a1 a2, idv b1 b2]) (.int .i64 X1) (fun W => ?_) (fun W hW => ?_) ?_
  · go_simp
  · exact (oi_any a1 a2 b1 b2 W).mono fun e W' ⟨he, hb'⟩ => ⟨by rw [he, H5.out], bt hW (hb')⟩
  go_simp
  refine hK _ ?_
  clear hK K
  refine BigFrame.wpQuiet_want (by kernel_rfl) (fun K hK => ?_)
  refine q_val (idv a1 a2) (fun W hW => ?_) ?_
  · have c0 := (PA.out.below hW).c0
    have c1 := (PA.out.below hW).c1
    go_simp
  go_simp
  refine hK _ ?_
  clear hK K
  refine BigFrame.wpQuiet_want (by kernel_rfl) (fun K hK => ?_)
  refine q_val (idv b1 b2) (fun W hW => ?_) ?_
  · have c0 := (PB.out.below hW).c0
    have c1 := (PB.out.below hW).c1
    go_simp
  go_simp
  refine hK _ ?_
  clear hK K
  refine BigFrame.wpQuiet_want (by kernel_rfl) (fun K hK => ?_)
  refine q_call (f := 19) (args := #[idv a1 a2, idv b1 b2]) (.int .i64 X1) (fun W => ?_) (fun W hW => ?_) ?_
  · go_simp
  · exact (xoi_any a1 a2 b1 b2 W).mono fun e W' ⟨he, hb'⟩ => ⟨by rw [he, H5.out], bt hW (hb')⟩
  go_simp
  refine hK _ ?_
  clear hK K
  refine BigFrame.wpQuiet_want (by kernel_rfl) (fun K hK => ?_)
  refine q_val (.bool true) (fun W hW => ?_) ?_
  · go_simp
  go_simp
  refine hK _ ?_
  clear hK K
  refine BigFrame.wpQuiet_want (by kernel_rfl) (fun K hK => ?_)
  refine q_val (.bool true) (fun W hW => ?_) ?_
  · go_simp
  go_simp
  refine hK _ ?_
  clear hK K
  refine BigFrame.wpQuiet_want (by kernel_rfl) (fun K hK => ?_)
  refine q_val (.bool true) (fun W hW => ?_) ?_
  · go_simp
  go_simp
  refine hK _ ?_
  clear hK K
  refine BigFrame.wpQuiet_want (by kernel_rfl) (fun K hK => ?_)
  refine q_val (idv x1 x2) (fun W hW => ?_) ?_
  · have c0 := (PX.out.below hW).c0
    have c1 := (PX.out.below hW).c1
    go_simp
  go_simp
  refine hK _ ?_
  clear hK K
  refine BigFrame.wpQuiet_want (by kernel_rfl) (fun K hK => ?_)
  refine q_val (idv y1 y2) (fun W hW => ?_) ?_
  · have c0 := (PY.out.below hW).c0
    have c1 := (PY.out.below hW).c1
    go_simp
  go_simp
  refine hK _ ?_
  clear hK K
  refine BigFrame.wpQuiet_want (by kernel_rfl) (fun K hK => ?_)
  refine q_call (f := 20) (args := #[idv x1 x2, idv y1 y2]) (.int .i64 X2) (fun W => ?_) (fun W hW => ?_) ?_
  · go_simp
  · exact (os_any x1 x2 y1 y2 W).mono fun e W' ⟨he, hb'⟩ => ⟨by rw [he, H6.out], bt hW (hb')⟩
  go_simp
  refine hK _ ?_
  clear hK K
  refine BigFrame.wpQuiet_want (by kernel_rfl) (fun K hK => ?_)
  refine q_val (idv x1 x2) (fun W hW => ?_) ?_
  · have c0 := (PX.out.below hW).c0
    have c1 := (PX.out.below hW).c1
    go_simp
  go_simp
  refine hK _ ?_
  clear hK K
  refine BigFrame.wpQuiet_want (by kernel_rfl) (fun K hK => ?_)
  refine q_val (idv y1 y2) (fun W hW => ?_) ?_
  · have c0 := (PY.out.below hW).c0
    have c1 := (PY.out.below hW).c1
    go_simp
  go_simp
  refine hK _ ?_
  clear hK K
  refine BigFrame.wpQuiet_want (by kernel_rfl) (fun K hK => ?_)
  refine q_call (f := 21) (args := #[idv x1 x2, idv y1 y2]) (.int .i64 X2) (fun W => ?_) (fun W hW => ?_) ?_
  · go_simp
  · exact (xos_any x1 x2 y1 y2 W).mono fun e W' ⟨he, hb'⟩ => ⟨by rw [he, H6.out], bt hW (hb')⟩
  go_simp
  refine hK _ ?_
  clear hK K
  refine BigFrame.wpQuiet_want (by kernel_rfl) (fun K hK => ?_)
  refine q_val (.bool true) (fun W hW => ?_) ?_
  · go_simp
  go_simp
  refine hK _ ?_
  clear hK K
  refine BigFrame.wpQuiet_want (by kernel_rfl) (fun K hK => ?_)
  refine q_val (.bool true) (fun W hW => ?_) ?_
  · go_simp
  go_simp
  refine hK _ ?_
  clear hK K
  refine BigFrame.wpQuiet_want (by kernel_rfl) (fun K hK => ?_)
  refine q_val (.bool true) (fun W hW => ?_) ?_
  · go_simp
  go_simp
  refine hK _ ?_
  clear hK K
  refine BigFrame.wpQuiet_want (by kernel_rfl) (fun K hK => ?_)
  refine q_val (idv a1 a2) (fun W hW => ?_) ?_
  · have c0 := (PA.out.below hW).c0
    have c1 := (PA.out.below hW).c1
    go_simp
  go_simp
  refine hK _ ?_
  clear hK K
  refine BigFrame.wpQuiet_want (by kernel_rfl) (fun K hK => ?_)
  refine q_call (f := 22) (args := #[idv a1 a2]) (.string S1) (fun W => ?_) (fun W hW => ?_) ?_
  · go_simp
  · exact (show_any a1 a2 W (HL.out.below (bt B1.out hW))).mono fun e W' ⟨he, hb'⟩ => ⟨by rw [he, H7.out], bt hW (hb')⟩
  go_simp
  refine hK _ ?_
  clear hK K
  refine BigFrame.wpQuiet_want (by kernel_rfl) (fun K hK => ?_)
  refine q_val (idv a1 a2) (fun W hW => ?_) ?_
  · have c0 := (PA.out.below hW).c0
    have c1 := (PA.out.below hW).c1
    go_simp
  go_simp
  refine hK _ ?_
  clear hK K
  refine BigFrame.wpQuiet_want (by kernel_rfl) (fun K hK => ?_)
  refine q_call (f := 23) (args := #[idv a1 a2]) (.string S1) (fun W => ?_) (fun W hW => ?_) ?_
  · go_simp
  · exact (xshow_any a1 a2 W (HL.out.below (bt B1.out hW))).mono fun e W' ⟨he, hb'⟩ => ⟨by rw [he, H7.out], bt hW (hb')⟩
  go_simp
  refine hK _ ?_
  clear hK K
  refine BigFrame.wpQuiet_want (by kernel_rfl) (fun K hK => ?_)
  refine q_val (.bool true) (fun W hW => ?_) ?_
  · go_simp
  go_simp
  refine hK _ ?_
  clear hK K
  refine BigFrame.wpQuiet_want (by kernel_rfl) (fun K hK => ?_)
  refine q_val (.bool true) (fun W hW => ?_) ?_
  · go_simp
  go_simp
  refine hK _ ?_
  clear hK K
  refine BigFrame.wpQuiet_want (by kernel_rfl) (fun K hK => ?_)
  refine q_val (.bool true) (fun W hW => ?_) ?_
  · go_simp
  go_simp
  refine hK _ ?_
  clear hK K
  refine wpQuiet_nil ?_
  intro W hW
  go_wp2_with fail
  go_ret
  exact ⟨rfl, bt B1.out hW⟩

end Go.Proofs.YtbcodkokacpioaaDoor
