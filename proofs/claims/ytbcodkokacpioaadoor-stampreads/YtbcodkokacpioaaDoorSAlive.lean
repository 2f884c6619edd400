/-
  That offshootlaw03.alive returns true is proved here, where the package variables hold what the program lays there.
-/
import Derived.Test.YtbcodkokacpioaaDoorSRead
import Derived.Test.YtbcodkokacpioaaDoorSSee
namespace Go.Proofs.YtbcodkokacpioaaDoor
open Go.RowKit
set_option linter.unusedVariables false

set_option maxHeartbeats 2000000 in
set_option maxRecDepth 100000 in
theorem alive_any (w : World) (hL : Lay w) : Calls Tryd.prog 9 #[] w fun e w' => e = .returned (.bool true) ∧ Below w.heap.size w w' := by
  have HL := hid hL
  clear hL
  go_enter Tryd.func9, Tryd.ntmps9
  go_wp2_with fail
  refine (new_any 2 _ (by decide)).mono ?_
  rintro e w1 ⟨b, rfl, hb, hc1, b1⟩
  have HB := hid hb
  have B1 := hid b1
  clear hb b1
  go_wp2_with fail
  refine (tick_goes b 2 0 0 w1 hc1 (by decide) (by decide) (by decide)).mono ?_
  rintro e w2 ⟨rfl, hc2, g2⟩
  rw [show (0 : Int) + 1 = 1 from rfl] at hc2 ⊢
  have B2 := hid (bg B1.out g2 HB.out)
  have hlt2 := hid hc2.lt
  have hc3 := hc2.below (ba w2 (ido 23 2 1))
  have A3 := hid (Pr.new 23 w2 2 1)
  have B3 := hid (bt B2.out (ba w2 (ido 23 2 1)))
  have ea : ¬ w2.heap.size = b := by have := hlt2.out; omega
  have HC3 := hid hc3
  clear hc1 hc2 g2 hc3
  go_wp2_with fail
  refine (see_any b 2 1 1 0 7 9 _ HC3.out (by decide) (by decide)).mono ?_
  rintro e w3 ⟨rfl, hc4, g4⟩
  rw [show seeT 1 9 = 9 by decide, show seeN 2 1 0 7 = 1 by decide] at hc4
  have A4 := hid (A3.out.other g4 ea)
  have B4 := hid (bg B3.out g4 HB.out)
  clear g4
  go_wp2_with fail
  refine (tick_goes b 2 9 1 w3 hc4 (by decide) (by decide) (by decide)).mono ?_
  rintro e w4 ⟨rfl, hc5, g5⟩
  rw [show (9 : Int) + 1 = 10 from rfl, show (1 : Int) + 1 = 2 from rfl]
  have A5 := hid ((A4.out.other g5 ea).below (ba w4 (ido 23 2 2)))
  have C5 := hid (Pr.new 23 w4 2 2)
  have B5 := hid (bt (bg B4.out g5 HB.out) (ba w4 (ido 23 2 2)))
  clear hc4 hc5 g5
  obtain ⟨a, ha⟩ : ∃ a, w2.heap.size = a := ⟨_, rfl⟩
  obtain ⟨d, hd⟩ : ∃ d, w4.heap.size = d := ⟨_, rfl⟩
  rw [ha] at A5
  rw [hd] at C5
  clear ea
  go_wp2_with fail
  refine (read_any ⟨#[50, 46, 49]⟩ _ (HL.out.below B5.out) (by decide)).mono ?_
  rintro e w5 ⟨r, n, ok, rfl, hrd, b6⟩
  obtain ⟨rfl, rfl, rfl⟩ := hrd.same (r' := 2) (n' := 1) (ok' := true) (.inl ⟨rfl, by decide, by rw [sh_op (by decide)]; show Lib.decDigits 2 ++ [46] ++ Lib.decDigits 1 = _; rw [Lib.decDigits_one (i := 2) (by decide), Lib.decDigits_one (i := 1) (by decide)]; rfl⟩)
  have A6 := hid ((A5.out.below b6).below (ba w5 (ido 23 2 1)))
  have C6 := hid ((C5.out.below b6).below (ba w5 (ido 23 2 1)))
  have D6 := hid (Pr.new 23 w5 2 1)
  have B6 := hid (bt (bt B5.out b6) (ba w5 (ido 23 2 1)))
  clear b6 hrd
  have L6 := HL.out.below B6.out
  have k0 := A6.out.c0
  have k1 := A6.out.c1
  have k2 := C6.out.c0
  have k3 := C6.out.c1
  have t0 := L6.t0
  have t1 := L6.t1
  have HL6 := hid L6
  clear L6
  go_wp2_with fail
  refine (show_any 1 0 _ HL6.out).mono ?_
  rintro e w6 ⟨rfl, b7⟩
  rw [sh_trash]
  have B7 := hid (bt B6.out b7)
  have L7 := HL.out.below B7.out
  have r0 := L7.r0
  have r1 := L7.r1
  have HL7 := hid L7
  clear L7 b7 t0 t1
  go_wp2_with fail
  refine (rb_any 0 0 _ HL7.out).mono ?_
  rintro e w7 ⟨rfl, b8⟩
  rw [show rb 0 0 = true by decide]
  have B8 := hid (bt B7.out b8)
  have L8 := HL.out.below B8.out
  have r0' := L8.r0
  have r1' := L8.r1
  clear L8 b8
  go_wp2_with fail
  refine (ro_any 0 0 _).mono ?_
  rintro e w8 ⟨rfl, rfl⟩
  rw [show ro 0 0 = false by decide]
  go_wp2_with fail
  go_ret
  exact ⟨rfl, bt B8.out (ba _ _)⟩

end Go.Proofs.YtbcodkokacpioaaDoor
