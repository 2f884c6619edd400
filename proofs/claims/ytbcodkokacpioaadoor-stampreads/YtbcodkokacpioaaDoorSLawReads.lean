/-
  StampReads: every Read answers the document's name, or false: for every text, where the package variables hold what the program lays there.
-/
import Derived.Test.YtbcodkokacpioaaDoorSAlive
import Derived.Test.YtbcodkokacpioaaDoorXRead
namespace Go.Proofs.YtbcodkokacpioaaDoor
open Go.RowKit
set_option linter.unusedVariables false

set_option maxHeartbeats 2000000 in
set_option maxRecDepth 100000 in
theorem reads_walk (s : ByteArray) (w : World) (hL : Lay w) :
    Calls Tryd.prog 4 #[.string s] w fun e w' => e = .returned (.bool true) ∧ Below w.heap.size w w' := by
  have HA := hid (alive_any w hL)
  have HL := hid hL
  clear hL
  by_cases hbig : 1000 < s.size
  · have hb : (1000 : Int) < (s.size : Int) := by omega
    clear hbig
    go_enter Tryd.func4, Tryd.ntmps4
    go_wp2_with fail
    refine HA.out.mono ?_
    rintro e w1 ⟨rfl, b1⟩
    go_wp2_with fail
    go_ret
    exact ⟨rfl, b1⟩
  · have hb : ¬ (1000 : Int) < (s.size : Int) := by omega
    go_enter Tryd.func4, Tryd.ntmps4
    go_wp2_with fail
    refine HA.out.mono ?_
    rintro e w1 ⟨rfl, b1⟩
    have B1 := hid b1
    clear b1
    go_wp2_with fail
    refine (read_any s w1 (HL.out.below B1.out) (by omega)).mono ?_
    rintro e w2 ⟨r, n, ok, rfl, hrd, b2⟩
    have B2 := hid (bt (bt B1.out b2) (ba w2 (ido 23 r n)))
    have P2 := hid (Pr.new 23 w2 r n)
    have HRD := hid hrd
    clear b2 hrd
    go_wp2_with fail
    refine (xread_any s _ (HL.out.below B2.out) (by omega)).mono ?_
    rintro e w3 ⟨r', n', ok', rfl, hrd', b3⟩
    obtain ⟨rfl, rfl, rfl⟩ := HRD.out.same hrd'
    have B3 := hid (bt (bt B2.out b3) (ba w3 (ido 23 r n)))
    have p3 := (P2.out.below b3).below (ba w3 (ido 23 r n))
    have q3 := Pr.new 23 w3 r n
    have c0 := p3.c0
    have c1 := p3.c1
    have c2 := q3.c0
    have c3 := q3.c1
    clear b3 hrd' p3 q3
    go_wp2_with fail
    go_ret
    exact ⟨by simp, B3.out⟩

end Go.Proofs.YtbcodkokacpioaaDoor
