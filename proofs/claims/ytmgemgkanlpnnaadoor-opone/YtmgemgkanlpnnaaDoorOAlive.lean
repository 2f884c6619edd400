/-
  That offshootlaw05.alive returns true is proved here, where the package variables hold what the program lays there.
-/
import Derived.Test.YtmgemgkanlpnnaaDoorOFold
import Derived.Test.YtmgemgkanlpnnaaDoorOSameC
import Derived.Test.YtmgemgkanlpnnaaDoorSame
import Derived.Test.YtmgemgkanlpnnaaDoorOAliveR
namespace Go.Proofs.YtmgemgkanlpnnaaDoor
open Go.RowKit
set_option linter.unusedVariables false
set_option maxRecDepth 100000

theorem wpList_store_ops {ops : Array Oper} {rest : List Oper} {p : Oper} {a : Act} {W : World} {Q : Exit → Act → World → Prop} (hgd : p.guard = none) (x y : Operand) (ho : p.op = .store 30 x y) (k0 : Int) (o : Opn) (v : Value) (hv : ∃ va n vc, v = .slice va n vc)
    (hx : a.eval x = .pointer (some ⟨W.heap.size, 0, none⟩)) (hy : a.eval y = opv o v)
    (hk : wpList Tryd.prog ops Q rest (a.put p.dst undef) (W.alloc (opo o v))) : wpList Tryd.prog ops Q (p :: rest) a (W.alloc (.cells (zopc k0) 30)) :=
  wpList_store_opn hgd x y ho (zopc k0) (opl o v) hx hy rfl rfl (by obtain ⟨va, n, vc, rfl⟩ := hv; simp [Value.oneCell']) hk

set_option maxHeartbeats 8000000 in
theorem alive_any (w : World) (hL : Lay w) : Calls Tryd.prog 8 #[] w fun e w' => e = .returned (.bool true) ∧ Below w.heap.size w w' := by
  have HL := hid hL
  clear hL
  go_enter Tryd.func8, Tryd.ntmps8
  go_wp2_with fail
  refine (fold_any _).mono ?_
  rintro e w1 ⟨rfl, b1⟩
  have B1 := hid b1
  clear b1
  go_wp2_with fail
  refine (encode_yes foldO _ _ (HL.out.below B1.out) (Cs.nil _) fold_fine fold_right).mono ?_
  rintro e w2 ⟨ve, rfl, hve, b2⟩
  rw [fold_enc] at hve
  have B2 := hid (bt B1.out b2)
  have HE := hid (Bs.of_own hve (by decide))
  obtain ⟨ea, ec, hev, _⟩ := own_form hve
  subst hev
  clear b2 hve
  have HA3 := hid (ba w2 (.cells (cs [6, 1, 2, 3, 0, 1, 1]).toArray 5))
  have HD := hid (decode_any _ [6, 1, 2, 3, 0, 1, 1] (w2.alloc (.cells (cs [6, 1, 2, 3, 0, 1, 1]).toArray 5)) (HL.out.below (bt B2.out HA3.out)) (Bs.lit w2 5 [6, 1, 2, 3, 0, 1, 1] (by decide) (by decide)) (by decide))
  rw [fold_dec] at HD
  go_wp2_with fail
  refine HD.out.mono ?_
  rintro e w3 ⟨vd, rfl, hcd, b3, _⟩
  have B3 := hid (bt (bt B2.out HA3.out) b3)
  have HE3 := hid ((HE.out.below HA3.out).below b3)
  have HCD := hid hcd
  have hvd : ∃ va n vc, vd = .slice va n vc := by
    obtain ⟨va, vc, e, _⟩ := hcd.form
    exact ⟨va, _, vc, e⟩
  have HVD := hid hvd
  clear hcd b3 hvd HD
  have HA4 := hid (ba w3 (opo foldO vd))
  have HO4 := hid (Ob.new w3 foldO vd)
  go_wp2_with (refine wpList_store_ops rfl _ _ rfl 0 foldO vd HVD.out rfl rfl ?_)
  refine (fold_any _).mono ?_
  rintro e w5 ⟨rfl, b5⟩
  have B5 := hid (bt (bt B3.out HA4.out) b5)
  have HO5 := hid (HO4.out.below b5)
  have HE5 := hid ((HE3.out.below HA4.out).below b5)
  have HC5 := hid ((HCD.out.below HA4.out).below b5)
  clear b5
  go_wp2_with fail
  refine (needs_any foldO _ _ (Cs.nil _) (by decide)).mono ?_
  rintro e w6 ⟨vn, rfl, hns, b6⟩
  rw [fold_needs] at hns
  obtain ⟨nb, noff, nc, rfl, _, _, hnl, hnc⟩ := hns.inv (by decide)
  have hn0 := hnc 0 (by decide)
  have B6 := hid (bt B5.out b6)
  have HO6 := hid (HO5.out.below b6)
  have HE6 := hid (HE5.out.below b6)
  have HC6 := hid (HC5.out.below b6)
  have HL6 := hid (HL.out.below B6.out)
  simp at hn0
  clear b6 hns hnc
  go_wp2_with fail
  have nn0 : ∀ W, Below w6.heap.size w6 W → W.cell? ⟨nb, noff, none⟩ = some (.int .i64 0) := fun W hW => (hW.cell hnl).trans hn0.1
  have nn1 : ∀ W, Below w6.heap.size w6 W → W.cell? ⟨nb, noff + 1, none⟩ = some (.int .i64 1) := fun W hW => (hW.cell hnl).trans hn0.2
  refine alive_last w6 ea ec w3.heap.size nb noff nc (opv foldO (.slice none 0 0)) (opv foldO vd) _ _ _ _ _ _ _ _ _ _ _ _ _ HE6.out (fun W hW _ _ _ h1 h2 => run_load_op h1 h2 (HO6.out.below hW)) (fun W => fold_any W) (fun W hW => (sameop_any foldO foldO vd (.slice none 0 0) W (HC6.out.below hW) (Cs.nil _)).mono fun _ _ ⟨r, h1, h2, h3⟩ => ⟨by rw [h1, h2.2 rfl], h3⟩) (fun W hW => (same_op foldO foldO vd (.slice none 0 0) W (HC6.out.below hW) (Cs.nil _)).mono fun _ _ ⟨r, h1, h2, h3⟩ => ⟨by rw [h1, h2.2 rfl], h3⟩) (fun W hW => right_any Opn.zero (.slice none 0 0) W (HL6.out.below hW) (Cs.nil _) ⟨by decide, by decide⟩) nn0 nn1 (fun _ _ _ _ _ h => h) (fun W hW => ?_)
  have HB := hid (bt B6.out hW)
  go_wp2_with fail
  go_ret
  exact ⟨rfl, HB.out⟩

end Go.Proofs.YtmgemgkanlpnnaaDoor
