/-
  What the reference's Show answers is proved here, for all names.
-/
import Derived.Test.YtbcodkokacpioaaDoorSShow
namespace Go.Proofs.YtbcodkokacpioaaDoor
open Go.RowKit
set_option linter.unusedVariables false

abbrev tens : ByteArray := ⟨#[48, 49, 50, 51, 52, 53, 54, 55, 56, 57]⟩
theorem dig1 (n : Int) (h0 : 0 ≤ n) (h1 : n < 10) : tens.extract n.toNat (n + 1).toNat = ⟨[UInt8.ofNat (48 + n.toNat)].toArray⟩ := by
  have : n = 0 ∨ n = 1 ∨ n = 2 ∨ n = 3 ∨ n = 4 ∨ n = 5 ∨ n = 6 ∨ n = 7 ∨ n = 8 ∨ n = 9 := by omega
  rcases this with rfl | rfl | rfl | rfl | rfl | rfl | rfl | rfl | rfl | rfl <;> rfl
theorem rets {a b : ByteArray} (h : a = b) : Ending.returned (.string a) = .returned (.string b) := by rw [h]

set_option maxHeartbeats 1000000 in
theorem dig_small (n : Int) (w : World) (h0 : 0 ≤ n) (h1 : n < 10) :
    Calls Tryd.prog 38 #[.int .i64 n] w fun e w' => e = .returned (.string ⟨(Lib.decDigits n.toNat).toArray⟩) ∧ ∃ k, w' = w.drewN k := by
  have w1 : wrap64 (n + 1) = n + 1 := by unfold wrap64; omega
  have HD := hid ((dig1 n h0 h1).trans (by rw [Lib.decDigits_one (by omega : n.toNat < 10)] : _ = (⟨(Lib.decDigits n.toNat).toArray⟩ : ByteArray)))
  go_enter Tryd.func38, Tryd.ntmps38
  go_wp2
  go_ret
  exact ⟨rets HD.out, 0, rfl⟩

set_option maxHeartbeats 1000000 in
theorem dig_any : ∀ (m : Nat) (w : World), m ≤ 9223372036854775807 →
    Calls Tryd.prog 38 #[.int .i64 (m : Int)] w fun e w' => e = .returned (.string ⟨(Lib.decDigits m).toArray⟩) ∧ ∃ k, w' = w.drewN k := by
  intro m
  induction m using Nat.strongRecOn with
  | _ m ih =>
    intro w hm
    by_cases h : m < 10
    · have := dig_small (m : Int) w (by omega) (by omega)
      simpa using this
    · have hI := fun W => ih (m / 10) (by omega) W (by omega)
      have hl1 : (Lib.decDigits (m / 10)).length ≤ 21 := nd20 (n := ((m / 10 : Nat) : Int)) (by omega) (by omega)
      have e : Lib.decDigits m = Lib.decDigits (m / 10) ++ [UInt8.ofNat (48 + m % 10)] := by
        conv => lhs; rw [Lib.decDigits, dif_neg h]
      rw [e]
      have hadd := fun W => run_string_add_lists (P := Tryd.prog) W (Lib.decDigits (m / 10)) [UInt8.ofNat (48 + m % 10)] (by omega) (by simp)
      have hD := dig1 (((m % 10 : Nat) : Int)) (by omega) (by omega)
      rw [Int.toNat_natCast, show (((m % 10 : Nat) : Int) + 1).toNat = m % 10 + 1 by omega] at hD
      obtain ⟨sa, hsa⟩ : ∃ s : ByteArray, (⟨(Lib.decDigits (m / 10)).toArray⟩ : ByteArray) = s := ⟨_, rfl⟩
      obtain ⟨sb, hsb⟩ : ∃ s : ByteArray, (⟨[UInt8.ofNat (48 + m % 10)].toArray⟩ : ByteArray) = s := ⟨_, rfl⟩
      obtain ⟨sc, hsc⟩ : ∃ s : ByteArray, (⟨(Lib.decDigits (m / 10) ++ [UInt8.ofNat (48 + m % 10)]).toArray⟩ : ByteArray) = s := ⟨_, rfl⟩
      rw [hsa, hsb, hsc] at hadd
      rw [hsa] at hI
      rw [hsb] at hD
      rw [hsc]
      obtain ⟨q, hq⟩ : ∃ q : Nat, m / 10 = q := ⟨_, rfl⟩
      obtain ⟨d, hd⟩ : ∃ d : Nat, m % 10 = d := ⟨_, rfl⟩
      have q1 : (m : Int) / 10 = (q : Int) := by omega
      have q2 : (m : Int) % 10 = (d : Int) := by omega
      have q12 : (m : Int).tmod 10 = (d : Int) := by rw [Int.tmod_eq_emod_of_nonneg (by omega)]; exact q2
      have q3 : (d : Int) < 10 := by omega
      have q4 : wrap64 ((d : Int) + 1) = (d : Int) + 1 := by unfold wrap64; omega
      have q5 : ¬ (m : Int) < 10 := by omega
      have q6 : wrap64 (q : Int) = q := by unfold wrap64; omega
      have q7 : (d : Int) + 1 ≤ 10 := by omega
      have q13 : (0 : Int) ≤ (d : Int) + 1 := by omega
      have q14 : (d : Int) ≤ (d : Int) + 1 := by omega
      have q8 : wrap64 (d : Int) = d := by unfold wrap64; omega
      have q9 : IntKind.i64.wrap (q : Int) = q := by rw [IntKind.wrap_i64]; omega
      have q10 : IntKind.i64.wrap (d : Int) = d := by rw [IntKind.wrap_i64]; omega
      have q11 : IntKind.i64.wrap ((d : Int) + 1) = (d : Int) + 1 := by rw [IntKind.wrap_i64]; omega
      rw [hq] at hI
      rw [hd] at hD
      have HI := hid hI
      clear hI ih e hsa hsb hsc hl1 hq hd h hm
      go_enter Tryd.func38, Tryd.ntmps38
      go_wp2_with fail
      go_quiet ((go_at_call 38; exact Calls.quiet_of (HI.out _)))
      go_wp2
      go_ret
      exact ⟨rfl, _, rfl⟩

theorem digi_any (n : Int) (w : World) (h0 : 0 ≤ n) (h1 : n ≤ 9223372036854775807) :
    Calls Tryd.prog 38 #[.int .i64 n] w fun e w' => e = .returned (.string ⟨(Lib.decDigits n.toNat).toArray⟩) ∧ ∃ k, w' = w.drewN k := by
  obtain ⟨m, rfl⟩ := Int.eq_ofNat_of_zero_le h0
  exact dig_any m w (by omega)

set_option maxHeartbeats 1000000 in
theorem xshow_any (r n : Int) (w : World) (hL : Lay w) :
    Calls Tryd.prog 23 #[idv r n] w fun e w' => e = .returned (.string ⟨(sh r n).toArray⟩) ∧ Below w.heap.size w w' := by
  have HB := hid (ba w (ido 23 r n))
  have HL := hid (hL.below HB.out)
  have HP := hid (Pr.new 23 w r n)
  clear hL
  cases hb : rb r n
  · have e : sh r n = [63] := by
      unfold rb at hb
      simp at hb
      unfold sh
      rw [if_neg (by omega), if_neg (by omega), if_neg (by rw [hb.2]; simp)]
    rw [e]
    clear e
    go_enter Tryd.func23, Tryd.ntmps23
    go_wp2_with fail
    refine (xrb_any r n _).mono ?_
    rintro e w2 ⟨rfl, b2⟩
    rw [hb]
    go_wp2_with fail
    go_ret
    exact ⟨rfl, bt HB.out b2⟩
  · by_cases h0 : r = 0 ∧ n = 0
    · obtain ⟨rfl, rfl⟩ := h0
      rw [show sh 0 0 = [114, 111, 111, 116] by unfold sh; rw [if_pos ⟨rfl, rfl⟩]]
      go_enter Tryd.func23, Tryd.ntmps23
      go_wp2_with fail
      refine (xrb_any 0 0 _).mono ?_
      rintro e w2 ⟨rfl, b2⟩
      rw [hb]
      have L2 := HL.out.below b2
      have r0 := L2.r0
      have r1 := L2.r1
      have p2 := HP.out.below b2
      have k0 := p2.c0
      have k1 := p2.c1
      have B2 := hid b2
      clear L2 p2 b2
      go_wp2_with fail
      go_ret
      exact ⟨rfl, bt HB.out B2.out⟩
    · by_cases h1 : r = 1 ∧ n = 0
      · obtain ⟨rfl, rfl⟩ := h1
        rw [show sh 1 0 = [116, 114, 97, 115, 104] by unfold sh; rw [if_neg (by omega), if_pos ⟨rfl, rfl⟩]]
        clear h0
        go_enter Tryd.func23, Tryd.ntmps23
        go_wp2_with fail
        refine (xrb_any 1 0 _).mono ?_
        rintro e w2 ⟨rfl, b2⟩
        rw [hb]
        have L2 := HL.out.below b2
        have r0 := L2.r0
        have r1 := L2.r1
        have t0 := L2.t0
        have t1 := L2.t1
        have p2 := HP.out.below b2
        have k0 := p2.c0
        have k1 := p2.c1
        have B2 := hid b2
        clear L2 p2 b2
        go_wp2_with fail
        go_ret
        exact ⟨rfl, bt HB.out B2.out⟩
      · have ho : ro r n = true := by
          unfold rb at hb
          simp at hb
          rcases hb with hb | hb
          · omega
          · exact hb
        rw [sh_op ho]
        have HR : Hid (0 ≤ r ∧ r ≤ 9223372036854775807 ∧ 0 ≤ n ∧ n ≤ 9223372036854775807) := by
          have hb := ho
          simp [ro] at hb
          unfold Hid; omega
        obtain ⟨sa, sb, sc, sd, ha, hb2, hd, hac, hcd⟩ := join3 (Lib.decDigits r.toNat) (Lib.decDigits n.toNat) (nd20 HR.out.1 HR.out.2.1) (nd20 HR.out.2.2.1 HR.out.2.2.2)
        rw [← hd]
        have HI := hid (fun W => digi_any r W HR.out.1 HR.out.2.1)
        have HJ := hid (fun W => digi_any n W HR.out.2.2.1 HR.out.2.2.2)
        rw [← ha] at HI
        rw [← hb2] at HJ
        have hn' : (n == 0) = false := by
          have hb := ho
          simp [ro] at hb
          simp; omega
        clear ha hb2 hd h0 h1 ho
        go_enter Tryd.func23, Tryd.ntmps23
        go_wp2_with fail
        refine (xrb_any r n _).mono ?_
        rintro e w2 ⟨rfl, b2⟩
        rw [hb]
        have L2 := HL.out.below b2
        have r0 := L2.r0
        have r1 := L2.r1
        have t0 := L2.t0
        have t1 := L2.t1
        have p2 := HP.out.below b2
        have k0 := p2.c0
        have k1 := p2.c1
        have B2 := hid b2
        clear L2 p2 b2
        go_wp2_with fail
        go_quiet ((first
          | (go_at_call_of 38 (Value.int .i64 r); exact Calls.quiet_of (HI.out _))
          | (go_at_call_of 38 (Value.int .i64 n); exact Calls.quiet_of (HJ.out _))))
        go_wp2_with fail
        go_ret
        exact ⟨rfl, bt (bt HB.out B2.out) (bd _ _)⟩

end Go.Proofs.YtbcodkokacpioaaDoor
