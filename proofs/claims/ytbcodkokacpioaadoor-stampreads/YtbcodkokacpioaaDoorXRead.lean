/-
  What the reference's Read answers is proved here, for all texts.
-/
import Derived.Test.YtbcodkokacpioaaDoorSRead
import Derived.Test.YtbcodkokacpioaaDoorXShow
namespace Go.Proofs.YtbcodkokacpioaaDoor
open Go.RowKit
set_option linter.unusedVariables false

/-- What one byte makes of a replica, a number, and whether the point has been met. -/
def stp (a : Int × Int × Bool) (b : UInt8) : Int × Int × Bool :=
  if b.toNat = 46 then (a.1, a.2.1, true)
  else if 48 ≤ b.toNat ∧ b.toNat ≤ 57 then (if a.2.2 then (a.1, a.2.1 * 10 + ((b.toNat : Int) - 48), true) else (a.1 * 10 + ((b.toNat : Int) - 48), a.2.1, false))
  else a

theorem fold_step (s : ByteArray) (k : Nat) (h : k < s.size) {z a : Int × Int × Bool} (hf : (s.data.toList.take k).foldl stp z = a) : (s.data.toList.take (k + 1)).foldl stp z = stp a (s[k]'h) := by
  have hl : k < s.data.toList.length := by rw [Array.length_toList]; exact h
  rw [List.take_add_one, List.getElem?_eq_getElem hl, List.foldl_append, hf]
  rfl
theorem pow10_le : ∀ k : Nat, k < 12 → (10 : Int) ^ k ≤ 100000000000 := by decide
theorem fold_digits : ∀ (l : List UInt8) (acc : Nat) (N : Int) (q : Bool) (m : Nat), (∀ b ∈ l, 48 ≤ b.toNat ∧ b.toNat ≤ 57) → Lib.decFrom acc l = some m →
    l.foldl stp (if q then (N, (acc : Int), true) else ((acc : Int), N, false)) = if q then (N, (m : Int), true) else ((m : Int), N, false)
  | [], acc, N, q, m, _, h => by
    simp only [Lib.decFrom, Option.some.injEq] at h
    subst h
    rfl
  | b :: l, acc, N, q, m, hd, h => by
    have hb := hd b (by simp)
    have hv : Lib.digitVal b = some (b.toNat - 48) := by unfold Lib.digitVal; rw [if_pos hb]
    simp only [Lib.decFrom, hv] at h
    have := fold_digits l (acc * 10 + (b.toNat - 48)) N q m (fun c hc => hd c (by simp [hc])) h
    rw [List.foldl_cons]
    have e : stp (if q then (N, (acc : Int), true) else ((acc : Int), N, false)) b = if q then (N, ((acc * 10 + (b.toNat - 48) : Nat) : Int), true) else (((acc * 10 + (b.toNat - 48) : Nat) : Int), N, false) := by
      have e1 : ((acc * 10 + (b.toNat - 48) : Nat) : Int) = (acc : Int) * 10 + ((b.toNat : Int) - 48) := by omega
      unfold stp
      rw [if_neg (by omega), if_pos hb, e1]
      cases q <;> rfl
    rw [e]
    exact this
/-- An op's text is read off as it was shown. -/
theorem fold_op {r n : Int} (h : ro r n = true) : ((sh r n).take 12).foldl stp (0, 0, false) = (r, n, true) := by
  have hb := h
  simp [ro] at hb
  rw [sh_op h]
  have l1 : (Lib.decDigits r.toNat).length ≤ 2 := by
    rw [Lib.decDigits]
    split
    · simp
    · rw [Lib.decDigits_one (by omega : r.toNat / 10 < 10)]; simp
  have l2 : (Lib.decDigits n.toNat).length ≤ 7 := by
    have key : ∀ k m : Nat, m < 10 ^ k → 1 ≤ k → (Lib.decDigits m).length ≤ k := by
      intro k
      induction k with
      | zero => intro m _ h; omega
      | succ k ih =>
        intro m hm _
        rw [Lib.decDigits]
        split
        · simp
        · cases k with
          | zero => simp at hm; omega
          | succ k =>
            have : (Lib.decDigits (m / 10)).length ≤ k + 1 := ih (m / 10) (by rw [Nat.pow_succ] at hm; omega) (by omega)
            simp
            omega
    exact key 7 n.toNat (by simp; omega) (by decide)
  rw [List.take_of_length_le (by simp; omega), List.foldl_append, List.foldl_append]
  have f1 := fold_digits (Lib.decDigits r.toNat) 0 0 false r.toNat (dec_digits _) (decFrom_dec _)
  have f2 := fold_digits (Lib.decDigits n.toNat) 0 r true n.toNat (dec_digits _) (decFrom_dec _)
  simp only [if_false, Bool.false_eq_true, if_true] at f1 f2
  rw [show (((0 : Nat) : Int)) = 0 from rfl] at f1 f2
  rw [f1]
  have e : [(46 : UInt8)].foldl stp (((r.toNat : Nat) : Int), 0, false) = (r, 0, true) := by
    simp only [List.foldl_cons, List.foldl_nil]
    unfold stp
    rw [if_pos (by rfl)]
    rw [show ((r.toNat : Nat) : Int) = r by omega]
  rw [e, f2, show ((n.toNat : Nat) : Int) = n by omega]

theorem rd_fold_none {s : List UInt8} {R N : Int} {p : Bool} (h0 : s ≠ [114, 111, 111, 116]) (h1 : s ≠ [116, 114, 97, 115, 104]) (hf : (s.take 12).foldl stp (0, 0, false) = (R, N, p)) (h : ro R N = true → sh R N ≠ s) : Rd s 0 0 false := by
  refine .inr ⟨rfl, rfl, rfl, fun r n hr he => ?_⟩
  rcases rb_cases hr with ⟨rfl, rfl⟩ | ⟨rfl, rfl⟩ | ho
  · rw [sh_root] at he; exact h0 he.symm
  · rw [sh_trash] at he; exact h1 he.symm
  · have := fold_op ho
    rw [he, hf] at this
    simp only [Prod.mk.injEq] at this
    obtain ⟨rfl, rfl, _⟩ := this
    exact h ho he

set_option maxHeartbeats 8000000 in
set_option maxRecDepth 100000 in
theorem xread_loop (s : ByteArray) (w : World) (hL : Lay w) (h0 : s.data.toList ≠ [114, 111, 111, 116]) (h1 : s.data.toList ≠ [116, 114, 97, 115, 104]) (hs : s.size ≤ 1000) :
    Calls Tryd.prog 25 #[.string s] w fun e w' => ∃ r n ok, e = .returned (.tuple #[idv r n, .bool ok]) ∧ Rd s.data.toList r n ok ∧ Below w.heap.size w w' := by
  have n0 : (s.toList == [114, 111, 111, 116]) = false := str_not h0
  have n1 : (s.toList == [116, 114, 97, 115, 104]) = false := str_not h1
  have HL := hid hL
  have HN := hid (And.intro h0 h1)
  have A0 := hid ((Pr.new 23 w 0 0).below (ba _ (ido 23 0 0)))
  have A1 := Pr.new 23 (w.alloc (ido 23 0 0)) 0 0
  rw [show (w.alloc (ido 23 0 0)).heap.size = w.heap.size + 1 by simp] at A1
  have HA1 := hid A1
  have HA2 := hid (bt (ba w (ido 23 0 0)) (ba _ (ido 23 0 0)))
  clear hL h0 h1 A1
  obtain ⟨c, hc⟩ : ∃ c, w.heap.size = c := ⟨_, rfl⟩
  rw [hc] at A0 HA1
  go_enter Tryd.func25, Tryd.ntmps25
  go_wp2_with fail
  go_loopw [5, 6] (fun pt i wr => ∃ (k : Nat) (R N : Int) (p : Bool), k ≤ s.size ∧ k ≤ 12 ∧ i = .int .i64 k ∧ pt = .bool p ∧ 0 ≤ R ∧ R < 10 ^ k ∧ 0 ≤ N ∧ N < 10 ^ k ∧ (s.data.toList.take k).foldl stp (0, 0, false) = (R, N, p) ∧ Pr 23 wr c 0 0 ∧ Pr 23 wr (c + 1) R N ∧ Below w.heap.size w wr) (fun _ i _ => 12 - (intOf i).toNat)
  case atStart => exact ⟨0, 0, 0, false, Nat.zero_le _, Nat.zero_le _, rfl, rfl, by decide, by decide, by decide, by decide, rfl, A0.out, HA1.out, HA2.out⟩
  case round =>
    obtain ⟨k, R, N, p, hk, hk12, rfl, rfl, hR0, hR1, hN0, hN1, hf, hp0, hp1, hbw⟩ := hrel
    have HP0 := hid hp0
    have HP1 := hid hp1
    have HW := hid hbw
    by_cases hgo : k < s.size ∧ k < 12
    · obtain ⟨hg1, hg2⟩ := hgo
      have g1 : (k : Int) < (s.size : Int) := by omega
      have g2 : (k : Int) < 12 := by omega
      have hst := fold_step s k hg1 hf
      obtain ⟨b, hb⟩ : ∃ b, s[k]'hg1 = b := ⟨_, rfl⟩
      rw [hb] at hst
      have hx : (s[k]'hg1).toNat = b.toNat := by rw [hb]
      obtain ⟨x, hxx⟩ : ∃ x, b.toNat = x := ⟨_, rfl⟩
      rw [hxx] at hx
      have hp10 := pow10_le k hg2
      have hps : (10 : Int) ^ (k + 1) = 10 ^ k * 10 := Int.pow_succ 10 k
      have hB : Hid (0 ≤ R ∧ R < 10 ^ (k + 1) ∧ 0 ≤ N ∧ N < 10 ^ (k + 1)) := by unfold Hid; rw [hps]; omega
      obtain ⟨M, hM⟩ : ∃ M : Int, (10 : Int) ^ k = M := ⟨_, rfl⟩
      rw [hM] at hR1 hN1 hp10 hps
      have HMM := hid hM
      have HBB := hid (And.intro hR0 (And.intro hR1 (And.intro hN0 hN1)))
      have HST := hid hst
      have HXX := hid hxx
      have c0 := hp1.c0
      have c1 := hp1.c1
      have z0 := hp1.f 0
      have z1 := hp1.f 1
      clear hf hp0 hp1 hbw hst hb hxx hps hM
      cases h46 : ((x : Int) == 46)
      · have h46n : ¬ x = 46 := by simp at h46; omega
        rcases (by omega : ((48 : Int) ≤ x ∧ (x : Int) ≤ 57) ∨ ¬ (48 : Int) ≤ x ∨ (57 : Int) < x) with ⟨d1, d2⟩ | d1 | d1
        · have w8 : IntKind.u8.wrap ((x : Int) - 48) = (x : Int) - 48 := by rw [IntKind.wrap_u8]; omega
          cases p
          · have wA : wrap64 (R * 10) = R * 10 := by unfold wrap64; omega
            have wB : wrap64 (R * 10 + ((x : Int) - 48)) = R * 10 + ((x : Int) - 48) := by unfold wrap64; omega
            have wC : IntKind.i64.wrap ((x : Int) - 48) = (x : Int) - 48 := by rw [IntKind.wrap_i64]; omega
            have HF : Hid ((s.data.toList.take (k + 1)).foldl stp (0, 0, false) = (R * 10 + ((x : Int) - 48), N, false)) := by
              unfold Hid
              rw [HST.out]
              unfold stp
              rw [HXX.out, if_neg h46n, if_pos (by omega)]
              rfl
            have HQ1 := hid (HP1.out.set0 (R * 10 + ((x : Int) - 48)))
            have HQ0 := hid (HP0.out.other (grown_set wr (c + 1) 0 (.int .i64 (R * 10 + ((x : Int) - 48)))) (by omega))
            have HQW := hid (HW.out.setCell (p := ⟨c + 1, 0, none⟩) (by show _ ≤ c + 1; omega) (.int .i64 (R * 10 + ((x : Int) - 48))))
            go_wp2_with fail
            go_region
            go_wp2_with fail
            go_roundw
            case rel => exact ⟨k + 1, R * 10 + ((x : Int) - 48), N, false, by omega, by omega, by go_num, rfl, by have := HBB.out; omega, by rw [Int.pow_succ, HMM.out]; have := HBB.out; omega, hB.out.2.2.1, hB.out.2.2.2, HF.out, HQ0.out.drew, HQ1.out.drew, HQW.out.drew⟩
            case measure => simp [intOf]; omega
          · have wA : wrap64 (N * 10) = N * 10 := by unfold wrap64; omega
            have wB : wrap64 (N * 10 + ((x : Int) - 48)) = N * 10 + ((x : Int) - 48) := by unfold wrap64; omega
            have wC : IntKind.i64.wrap ((x : Int) - 48) = (x : Int) - 48 := by rw [IntKind.wrap_i64]; omega
            have HF : Hid ((s.data.toList.take (k + 1)).foldl stp (0, 0, false) = (R, N * 10 + ((x : Int) - 48), true)) := by
              unfold Hid
              rw [HST.out]
              unfold stp
              rw [HXX.out, if_neg h46n, if_pos (by omega)]
              rfl
            have HQ1 := hid (HP1.out.set1 (N * 10 + ((x : Int) - 48)))
            have HQ0 := hid (HP0.out.other (grown_set wr (c + 1) 1 (.int .i64 (N * 10 + ((x : Int) - 48)))) (by omega))
            have HQW := hid (HW.out.setCell (p := ⟨c + 1, 1, none⟩) (by show _ ≤ c + 1; omega) (.int .i64 (N * 10 + ((x : Int) - 48))))
            go_wp2_with fail
            go_region
            go_wp2_with fail
            go_roundw
            case rel => exact ⟨k + 1, R, N * 10 + ((x : Int) - 48), true, by omega, by omega, by go_num, rfl, hB.out.1, hB.out.2.1, by have := HBB.out; omega, by rw [Int.pow_succ, HMM.out]; have := HBB.out; omega, HF.out, HQ0.out.drew, HQ1.out.drew, HQW.out.drew⟩
            case measure => simp [intOf]; omega
        · have d1' : decide ((48 : Int) ≤ x) = false := by simpa using d1
          have HF : Hid ((s.data.toList.take (k + 1)).foldl stp (0, 0, false) = (R, N, p)) := by
            unfold Hid
            rw [HST.out]
            unfold stp
            rw [HXX.out, if_neg h46n, if_neg (by omega)]
          go_wp2_with fail
          go_roundw
          case rel => exact ⟨k + 1, R, N, p, by omega, by omega, by go_num, rfl, hB.out.1, hB.out.2.1, hB.out.2.2.1, hB.out.2.2.2, HF.out, HP0.out, HP1.out, HW.out⟩
          case measure => simp [intOf]; omega
        · have d0 : (48 : Int) ≤ x := by omega
          have d1' : decide ((x : Int) ≤ 57) = false := by simp; omega
          have HF : Hid ((s.data.toList.take (k + 1)).foldl stp (0, 0, false) = (R, N, p)) := by
            unfold Hid
            rw [HST.out]
            unfold stp
            rw [HXX.out, if_neg h46n, if_neg (by omega)]
          go_wp2_with fail
          go_roundw
          case rel => exact ⟨k + 1, R, N, p, by omega, by omega, by go_num, rfl, hB.out.1, hB.out.2.1, hB.out.2.2.1, hB.out.2.2.2, HF.out, HP0.out, HP1.out, HW.out⟩
          case measure => simp [intOf]; omega
      · have HF : Hid ((s.data.toList.take (k + 1)).foldl stp (0, 0, false) = (R, N, true)) := by
          unfold Hid
          rw [HST.out]
          unfold stp
          rw [HXX.out, if_pos (by simp at h46; omega)]
        go_wp2_with fail
        go_roundw
        case rel => exact ⟨k + 1, R, N, true, by omega, by omega, by go_num, rfl, hB.out.1, hB.out.2.1, hB.out.2.2.1, hB.out.2.2.2, HF.out, HP0.out, HP1.out, HW.out⟩
        case measure => simp [intOf]; omega
    · have hend : s.data.toList.take k = s.data.toList.take 12 := by
        by_cases h : k = 12
        · rw [h]
        · rw [List.take_of_length_le (by rw [Array.length_toList]; show s.size ≤ k; omega), List.take_of_length_le (by rw [Array.length_toList]; show s.size ≤ 12; omega)]
      rw [hend] at hf
      have HF := hid hf
      have hk' : (decide (k < s.size) = false) ∨ (k < s.size ∧ decide ((k : Int) < 12) = false) := by
        by_cases h : k < s.size
        · exact .inr ⟨h, by simp; omega⟩
        · exact .inl (by simpa using h)
      clear hf hp0 hp1 hbw hend hgo
      have HO := hid (HP0.out.below (ba wr (ido 23 R N)))
      have HI := hid (HP1.out.below (ba wr (ido 23 R N)))
      have HV := hid (bt HW.out (ba wr (ido 23 R N)))
      have c0 := HP1.out.c0
      have c1 := HP1.out.c1
      have i0 := HI.out.c0
      have i1 := HI.out.c1
      cases hro : ro R N
      · have HRD := hid (rd_fold_none HN.out.1 HN.out.2 HF.out (fun h => by rw [hro] at h; cases h))
        have o0 := HO.out.c0
        have o1 := HO.out.c1
        have q0 := HO.out.f 0
        have q1 := HO.out.f 1
        rcases hk' with g1 | ⟨g1, g2⟩
        all_goals
          go_wp2_with (go_at_call 11; refine (xro_any R N _).mono ?_; rintro e w2 ⟨rfl, rfl⟩; rw [hro])
          try simp only [Exit.inBlock, Exit.then]
          refine bodyPost_ret (results_id2 rfl _ _ rfl (s := c) (r := 0) (n := 0) ?_) rfl ?_
          · exact (HO.out.set0 0).set1 0
          · exact ⟨0, 0, false, rfl, HRD.out, (HV.out.setCell (Nat.le_of_eq hc) _).setCell (Nat.le_of_eq hc) _⟩
      · obtain ⟨S, hS⟩ : ∃ S : ByteArray, (⟨(sh R N).toArray⟩ : ByteArray) = S := ⟨_, rfl⟩
        have HSH := hid (xshow_any R N _ (HL.out.below HV.out))
        rw [hS] at HSH
        by_cases he : sh R N = s.data.toList
        · have e2 : S = s := Go.WideShapes.bytes_inj (by rw [← hS, ← he])
          have HRD := hid (show Rd s.data.toList R N true from .inl ⟨rfl, by unfold rb; rw [hro]; simp, he⟩)
          subst e2
          clear he hS
          rcases hk' with g1 | ⟨g1, g2⟩
          all_goals
            go_wp2_with (first
              | (go_at_call 11; refine (xro_any R N _).mono ?_; rintro e w2 ⟨rfl, rfl⟩; rw [hro])
              | (go_at_call 23; refine HSH.out.mono ?_; rintro e w5 ⟨rfl, b5⟩; have o5 := HO.out.below b5; have o0 := o5.c0; have o1 := o5.c1; have q0 := o5.f 0; have q1 := o5.f 1; have i5 := HI.out.below b5; have j0 := i5.c0; have j1 := i5.c1; have HO5 := hid o5; have B5 := hid (bt HV.out b5); clear o5 i5 b5))
            try simp only [Exit.inBlock, Exit.then]
            refine bodyPost_ret (results_id2 rfl _ _ rfl (s := c) (r := R) (n := N) ?_) rfl ?_
            · exact (HO5.out.set0 R).set1 N
            · exact ⟨R, N, true, rfl, HRD.out, (B5.out.setCell (Nat.le_of_eq hc) _).setCell (Nat.le_of_eq hc) _⟩
        · have hne : (S.toList == s.toList) = false := str_ne (by rw [← hS]; exact he)
          have HRD := hid (rd_fold_none HN.out.1 HN.out.2 HF.out (fun _ => he))
          clear he hS
          rcases hk' with g1 | ⟨g1, g2⟩
          all_goals
            go_wp2_with (first
              | (go_at_call 11; refine (xro_any R N _).mono ?_; rintro e w2 ⟨rfl, rfl⟩; rw [hro])
              | (go_at_call 23; refine HSH.out.mono ?_; rintro e w5 ⟨rfl, b5⟩; have o5 := HO.out.below b5; have o0 := o5.c0; have o1 := o5.c1; have q0 := o5.f 0; have q1 := o5.f 1; have HO5 := hid o5; have B5 := hid (bt HV.out b5); clear o5 b5))
            try simp only [Exit.inBlock, Exit.then]
            refine bodyPost_ret (results_id2 rfl _ _ rfl (s := c) (r := 0) (n := 0) ?_) rfl ?_
            · exact (HO5.out.set0 0).set1 0
            · exact ⟨0, 0, false, rfl, HRD.out, (B5.out.setCell (Nat.le_of_eq hc) _).setCell (Nat.le_of_eq hc) _⟩

set_option maxHeartbeats 1000000 in
theorem xread_any (s : ByteArray) (w : World) (hL : Lay w) (hs : s.size ≤ 1000) :
    Calls Tryd.prog 25 #[.string s] w fun e w' => ∃ r n ok, e = .returned (.tuple #[idv r n, .bool ok]) ∧ Rd s.data.toList r n ok ∧ Below w.heap.size w w' := by
  have r0 := fun o => ((ba w o).cell (p := ⟨1, 0, none⟩) (World.block_lt_of_cell? _ _ hL.r0)).trans hL.r0
  have r1 := fun o => ((ba w o).cell (p := ⟨1, 1, none⟩) (World.block_lt_of_cell? _ _ hL.r1)).trans hL.r1
  have t0 := fun o => ((ba w o).cell (p := ⟨0, 0, none⟩) (World.block_lt_of_cell? _ _ hL.t0)).trans hL.t0
  have t1 := fun o => ((ba w o).cell (p := ⟨0, 1, none⟩) (World.block_lt_of_cell? _ _ hL.t1)).trans hL.t1
  by_cases h0 : s.data.toList = [114, 111, 111, 116]
  · obtain rfl : s = ⟨#[114, 111, 111, 116]⟩ := Go.WideShapes.bytes_inj h0
    clear hL hs h0
    obtain ⟨c, hc⟩ : ∃ c, w.heap.size = c := ⟨_, rfl⟩
    go_enter Tryd.func25, Tryd.ntmps25
    go_wp2_with fail
    refine bodyPost_ret (results_id2 rfl _ _ rfl (s := c) (r := 0) (n := 0) ?_) rfl ?_
    · exact hc ▸ Pr.new _ w 0 0
    · exact ⟨0, 0, true, rfl, .inl ⟨rfl, by decide, sh_root⟩, ba _ _⟩
  · by_cases h1 : s.data.toList = [116, 114, 97, 115, 104]
    · obtain rfl : s = ⟨#[116, 114, 97, 115, 104]⟩ := Go.WideShapes.bytes_inj h1
      clear hL hs h0 h1
      obtain ⟨c, hc⟩ : ∃ c, w.heap.size = c := ⟨_, rfl⟩
      go_enter Tryd.func25, Tryd.ntmps25
      go_wp2_with fail
      refine bodyPost_ret (results_id2 rfl _ _ rfl (s := c) (r := 1) (n := 0) ?_) rfl ?_
      · exact hc ▸ Pr.new _ w 1 0
      · exact ⟨1, 0, true, rfl, .inl ⟨rfl, by decide, sh_trash⟩, ba _ _⟩
    · exact xread_loop s w hL h0 h1 hs

end Go.Proofs.YtbcodkokacpioaaDoor
