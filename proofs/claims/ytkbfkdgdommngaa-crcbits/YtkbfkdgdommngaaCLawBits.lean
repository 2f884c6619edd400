/-
  For every list of bytes and every number the law CrcBits returns true: a frame of which one bit behind the first four bytes is turned is bad. No condition.
-/
import Derived.Test.YtkbfkdgdommngaaCAlive
import Derived.Deep.AppendLies
import Derived.ProofKit
import Derived.OpenShut
import Derived.ShutString
import Derived.ChangeOld
import Derived.Below
namespace Go.Proofs.Ytkbfkdgdommngaa
open Go.RowKit
set_option linter.unusedVariables false

theorem flip_all : ∀ r : Nat, r < 8 → ∀ x : Nat, x < 256 → bits BinOp.xor IntKind.u8 (x : Int) ((2 : Int) ^ r % 256) ≠ x ∧ 0 ≤ bits BinOp.xor IntKind.u8 (x : Int) ((2 : Int) ^ r % 256) ∧ bits BinOp.xor IntKind.u8 (x : Int) ((2 : Int) ^ r % 256) < 256 := by decide +kernel
theorem flip_one (r : Nat) (x : Int) (hr : r < 8) (h0 : 0 ≤ x) (h1 : x < 256) : bits BinOp.xor IntKind.u8 x ((2 : Int) ^ r % 256) ≠ x ∧ 0 ≤ bits BinOp.xor IntKind.u8 x ((2 : Int) ^ r % 256) ∧ bits BinOp.xor IntKind.u8 x ((2 : Int) ^ r % 256) < 256 := by
  obtain ⟨y, rfl⟩ := Int.eq_ofNat_of_zero_le h0
  exact flip_all r hr y (by omega)
theorem cs_set (l : List Int) (k : Nat) (x : Int) : (cs l).set k (.int .u8 x) = cs (l.set k x) := by simp [cs, List.map_set]
theorem set_bytes {l : List Int} (h : C.Bytes l) (k : Nat) {x : Int} (hx : 0 ≤ x ∧ x < 256) : C.Bytes (l.set k x) := fun y hy => by
  rcases List.mem_or_eq_of_mem_set hy with h1 | h1
  · exact h y h1
  · rw [h1]; exact hx

set_option maxHeartbeats 1000000 in
theorem bits_any (v : Value) (xs : List Int) (bit : Int) (w : World) (h : Bs w v xs) (wb : (Lit.int .i64 bit).wf = true) :
    Calls Try.prog 5 #[v, .int .i64 bit] w fun e w' => e = .returned (.bool true) ∧ Below w.heap.size w w' := by
  clear wb
  have hl := h.len
  unfold maxLen at hl
  have hB := hid h
  have HR := hid h.range
  have hv : ∃ a c, v = .slice a xs.length c := by
    obtain ⟨a, c, e, _⟩ := h
    exact ⟨a, c, e⟩
  obtain ⟨a, c, rfl⟩ := hv
  clear h
  obtain ⟨n, hn⟩ : ∃ n, xs.length = n := ⟨_, rfl⟩
  have HN := hid hn
  rw [hn] at hl hB ⊢
  clear hn
  by_cases h3 : 3000 < n
  · go_enter Try.func5, Try.ntmps5
    go_wp2_with fail
    refine (alive_any _).mono ?_
    rintro e w1 ⟨rfl, b1⟩
    go_wp2
    go_ret
    exact ⟨rfl, b1⟩
  · have hneq : ((8 + (n : Int)) != 8 + (n : Int)) = false := by simp
    go_enter Try.func5, Try.ntmps5
    go_wp2_with fail
    refine (alive_any _).mono ?_
    rintro e w1 ⟨rfl, b1⟩
    have hB1 := hid (hB.out.below b1)
    go_wp2_with fail
    refine (frame_right _ xs _ hB1.out (by rw [HN.out]; omega)).mono ?_
    rintro e w2 ⟨vf, rfl, hown, b2⟩
    rw [HN.out] at hown
    obtain ⟨g, cap, rfl, hg, hg2⟩ := hown.form (by omega)
    have b12 := bt b1 b2
    have hgw : w.heap.size ≤ g := Nat.le_trans b1.size hg
    have HO := hid hown
    clear b1 b2 hown hB hB1 hg
    by_cases hr : 32 ≤ bit ∧ bit < 8 * (8 + (n : Int))
    · obtain ⟨hr1, hr2⟩ := hr
      obtain ⟨B, rfl⟩ := Int.eq_ofNat_of_zero_le (show 0 ≤ bit by omega)
      have hq : B / 8 < 8 + n := by omega
      have hcell := HO.out.cellAt (B / 8) (by omega)
      have hfz := HO.out.frozenAt (B / 8)
      have hst := hid (HO.out.stored (B / 8))
      have hd1 : decide ((B : Int) < 32) = false := by simp; omega
      have hd2 : decide (8 * (8 + (n : Int)) ≤ (B : Int)) = false := by simp; omega
      obtain ⟨x, hx⟩ : ∃ x, (C.frame xs).getD (B / 8) 0 = x := ⟨_, rfl⟩
      have hcell' : w2.cell? ⟨g, B / 8, none⟩ = some (.int .u8 x) := by
        rw [hcell, ← hx]
        have : B / 8 < (C.frame xs).length := by rw [C.frame_length, HN.out]; exact hq
        simp [this]
      have hbx := C.getD_byte (C.frame_bytes HR.out) (B / 8)
      rw [hx] at hbx
      have hfl := flip_one (B % 8) x (by omega) hbx.1 hbx.2
      have HF := hid hfl
      have HX := hid hx
      clear hcell hx hfl
      go_wp2_with fail
      have hst2 := hst.out (.int .u8 (bits BinOp.xor IntKind.u8 x ((2 : Int) ^ (B % 8) % 256)))
      obtain ⟨y, hy⟩ : ∃ y, bits BinOp.xor IntKind.u8 x ((2 : Int) ^ (B % 8) % 256) = y := ⟨_, rfl⟩
      rw [hy] at hst2 ⊢
      have HF2 : y ≠ x ∧ 0 ≤ y ∧ y < 256 := by rw [← hy]; exact HF.out
      clear hy hst HF hcell'
      obtain ⟨w3, hw3⟩ : ∃ w3, w2.setCell ⟨g, B / 8, none⟩ (.int .u8 y) = w3 := ⟨_, rfl⟩
      rw [hw3] at hst2 ⊢
      clear hw3
      obtain ⟨ho3, hg3⟩ := hst2
      have b13 := bg b12 hg3 hgw
      rw [cs_set] at ho3
      have hbad := C.wh_other xs (B / 8) y HR.out (by rw [HN.out]; omega) (by omega) (by rw [HN.out]; exact hq) HF2.2 (by rw [HX.out]; exact HF2.1)
      have hBs := Bs.of_own ho3 (set_bytes (C.frame_bytes HR.out) _ HF2.2)
      obtain ⟨ys, hys⟩ : ∃ ys, (C.frame xs).set (B / 8) y = ys := ⟨_, rfl⟩
      have hyl : ys.length = 8 + n := by rw [← hys, List.length_set, C.frame_length, HN.out]
      rw [hys] at hbad hBs
      clear hys ho3 hg3 b12 HX HF2 HO
      refine (next_any _ ys 0 _ hBs (Nat.zero_le _) (by rw [hyl]; omega)).mono ?_
      rintro e w4 ⟨vx, rfl, hvx, b4, _⟩
      have e1 : nxV ys 0 = [] := by rw [nxV, List.drop_zero, hbad, if_neg (by decide)]
      have e2 : nxP ys 0 = 0 := by rw [nxP, List.drop_zero, hbad, if_neg (by decide)]
      rw [e1] at hvx
      rw [e2, List.drop_zero, hbad]
      obtain ⟨ax, cx, rfl, _⟩ := hvx.inv_nil
      have b14 := bt b13 b4
      clear e1 e2 hvx hBs hyl hbad b13 b4
      go_wp2
      go_ret
      exact ⟨rfl, b14⟩
    · by_cases h32 : bit < 32
      · clear hr
        go_wp2
        go_ret
        exact ⟨rfl, b12⟩
      · have h32' : decide (bit < 32) = false := by simpa using h32
        have hbig : 8 * (8 + (n : Int)) ≤ bit := by omega
        clear hr
        go_wp2
        go_ret
        exact ⟨rfl, b12⟩


namespace crcBits
open Go.ChangeShapes Go.WideShapes Go.ChangeAt
open Go.ChangeMaps (open_string shut_string)

theorem own : ownKnob Try.prog.godebug = none := by kernel_rfl
theorem laidOut : laidOutB Try.prog = true := by kernel_rfl

set_option maxRecDepth 100000 in
theorem lifted (os : Os) (started : os.Started) (H : Type) (enc : TypeId × Value → H) :
    ReturnsInHanded {} Try.checked os 5 .any (Rows.crcBitsSpec.pre6 enc Try.prog Try.f5 Rows.crcBitsRow.domain false) (Rows.crcBitsSpec.post enc Try.prog Try.f5 false true false false) := by
  refine returnsInHanded_of_change (C := Try.checked) own started (by kernel_rfl) Try.func5
    (ChangeSpec.witness6 (enc := enc) (C := Try.checked) false ⟨#[], #[.slice none 0 0, .int .i64 0], []⟩ 8 (by kernel_rfl) (by kernel_rfl) (by kernel_rfl) (by kernel_rfl)) ?_
  intro W base args ds gs before hval0 hW hcnd _
  have hval : ∀ (j : Nat) t v, Try.f5.params[j]? = some t → args[j]? = some v → Value.okWide Try.prog W .any base t v := hval0
  have hW' := hW
  obtain ⟨p, q, hA0, hV, rfl, hfz, hnd⟩ := hW
  have hA : DataW.TrodAll enc Try.prog W 0 (fun _ => true) true Try.f5.params.toList args.toList ds p := hA0
  rw [Try.params5] at hA hval
  obtain ⟨v0, vs0, d0, ds0, p0, q0, hargs, rfl, rfl, h0, r0⟩ := trodAll_cons hA
  obtain ⟨v1, vs1, d1, ds1, p1, q1, rfl, rfl, rfl, h1, r1⟩ := trodAll_cons r0
  obtain ⟨rfl, rfl, rfl⟩ := trodAll_nil r1
  obtain rfl : args = #[v0, v1] := by cases args; simp_all
  obtain ⟨rfl, rfl⟩ := trodVars_none hV
  obtain ⟨a0, len0, cap0, rfl⟩ := okWide_slice Try.underlying22 (hval 0 22 v0 rfl rfl)
  have k0 := h0
  have lt0 : ∀ x ∈ p0, x.block < W.heap.size := by obtain ⟨m, hm⟩ := k0; exact DataW.trod_lt m _ _ _ hm
  obtain ⟨z0, w0⟩ : ∃ xs, Bs W (.slice a0 len0 cap0) xs := by
    obtain ⟨fuel, hf⟩ := h0
    rcases open_ints Try.underlying22 Try.underlying5 (by kernel_rfl) hf with ⟨hcs, _⟩ | ⟨x, l, c, zs, hcs, _, hl, hm, hz, _, hcell, hwz⟩
    · simp [Value.cells] at hcs
      obtain ⟨rfl, rfl, rfl⟩ := hcs
      exact ⟨[], Bs.nil W⟩
    · simp [Value.cells] at hcs
      obtain ⟨rfl, rfl, rfl⟩ := hcs
      exact ⟨zs.take len0, Bs.of_row hl hm (by simpa using hz) hcell hwz⟩
  obtain ⟨a1, rfl, rfl, rfl, w1⟩ := open_int Try.underlying3 (hval 1 3 v1 rfl rfl) h1
  clear hA0 hval0
  refine (bits_any _ z0 a1 W w0 w1).mono fun e W' ⟨he, bel⟩ => ?_
  subst he
  exact ⟨_, rfl, _, _, _, [], _, [], hW', trodAll_mk1 (shut_bool Try.underlying4 _), (trodAll_cons_mk (Below.trod laidOut (by kernel_rfl) (of_decide_eq_true (by kernel_rfl)) k0 bel lt0) (trodAll_cons_mk (shut_int Try.underlying3 w1) trodAll_mk0)), rfl, bel.frame _, fun h => by cases h⟩

theorem over : Rows.crcBitsRow.holds Try.pinned (OpenSpec.ofChange Rows.crcBitsSpec) :=
  OpenClaim.holds_of_wide 5 Try.f5 rfl rfl rfl rfl rfl rfl rfl ⟨rfl, rfl, rfl, rfl, rfl⟩ rfl rfl rfl rfl rfl (by kernel_rfl) Try.func5 (by kernel_rfl)
    (of_decide_eq_true (by kernel_rfl)) (by unfold Func.isWrapper; first | (rw [if_pos (by decide +kernel)]; kernel_rfl) | (rw [if_neg (by decide +kernel)]; exact ⟨rfl, rfl⟩))
    (fun os started H enc _ => lifted os started H enc)
end crcBits

/-- THE STATEMENT. -/
theorem crcBits_holds : Rows.CrcBitsSaid := crcBits.over



end Go.Proofs.Ytkbfkdgdommngaa
