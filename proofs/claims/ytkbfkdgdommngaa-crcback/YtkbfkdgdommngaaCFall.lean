/-
  What crc.fall returns is proved here, for every sum of 32 bits.
-/
import Derived.Test.YtkbfkdgdommngaaRows
import Derived.Test.YtkbfkdgdommngaaMem
import Derived.Test.YtkbfkdgdommngaaCBits
namespace Go.Proofs.Ytkbfkdgdommngaa
open Go.RowKit
set_option linter.unusedVariables false

theorem fall_any (n : Nat) (w : World) (h : n < 4294967296) :
    Calls Try.prog 28 #[.int .u32 n] w fun e w' => e = .returned (.int .u32 (C.step n)) ∧ w = w' := by
  have ha := and1_u32 n h
  have hx := xor_u32 (n / 2) 3988292384 (by omega) (by decide)
  have hs : C.step n = if n % 2 = 1 then (n / 2) ^^^ 3988292384 else n / 2 := rfl
  rw [hs]
  clear hs
  rw [show (((n / 2 : Nat)) : Int) = (n : Int) / 2 from by omega] at hx
  have hx' : bits .xor .u32 ((n : Int) / 2) 3988292384 = (((n / 2) ^^^ 3988292384 : Nat) : Int) := hx
  have HX := hid hx'
  clear hx hx'
  by_cases h1 : n % 2 = 1
  · rw [if_pos h1]
    rw [h1] at ha
    go_enter Try.func28, Try.ntmps28
    go_wp2
    go_ret
    exact ⟨by rw [← HX.out]; rfl, rfl⟩
  · rw [if_neg h1]
    rw [show n % 2 = 0 by omega] at ha
    go_enter Try.func28, Try.ntmps28
    go_wp2
    go_ret
    exact ⟨by rfl, rfl⟩

end Go.Proofs.Ytkbfkdgdommngaa
