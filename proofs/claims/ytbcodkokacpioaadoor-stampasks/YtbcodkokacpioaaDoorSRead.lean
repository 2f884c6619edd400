/-
  What Read answers is proved here, of the program, for all texts of fewer than 4294967281 bytes.
-/
import Derived.Test.YtbcodkokacpioaaDoorSMath
import Derived.Test.YtbcodkokacpioaaDoorSRes
namespace Go.Proofs.YtbcodkokacpioaaDoor
open Go.RowKit
set_option linter.unusedVariables false

theorem str_ne {a b : ByteArray} (h : a.data.toList ≠ b.data.toList) : (a.toList == b.toList) = false := by
  rw [beq_eq_false_iff_ne, ByteArray.toList_eq, ByteArray.toList_eq]
  exact h
theorem str_not {a : ByteArray} {l : List UInt8} (h : a.data.toList ≠ l) : (a.toList == l) = false := by
  rw [beq_eq_false_iff_ne, ByteArray.toList_eq]
  exact h

theorem atoi_any (s : ByteArray) (w : World) (hL : Lay w) (hs : s.size ≤ 281474976710656) :
    Calls Tryd.prog 47 #[.string s] w fun e w' => ∃ v x, e = .returned (.tuple #[.int .i64 v, x]) ∧ Below w.heap.size w w' ∧
      ((x = .nilIface ∧ Lib.atoiAll s.data.toList = .ok v) ∨ ((∃ T p, x = .iface T p) ∧ ∀ u, Lib.atoiAll s.data.toList ≠ .ok u)) := by
  cases h : Lib.atoiAll s.data.toList
  · rename_i v
    refine (Tryd.strconv_Atoi_ok s (by omega) v h w).mono fun e w' ⟨he, hw⟩ => ⟨v, _, he, ?_, .inl ⟨rfl, rfl⟩⟩
    rcases hw with rfl | ⟨t, rfl⟩
    · exact Below.refl _ _
    · exact Lib.bytesWorld_below _ _ _
  · obtain ⟨tp, p, hv⟩ := hL.es
    have hc : Calls Tryd.prog 47 #[.string s] w fun e w' => ∃ N, e = .returned (.tuple #[.int .i64 0, .iface 111 (.pointer (some ⟨N, 0, none⟩))]) ∧ w.heap.size ≤ N ∧ w'.heap[N]? = some (.cells #[.string ⟨#[65, 116, 111, 105]⟩, .string s, .iface tp p] 127 (0, 0)) ∧ Below w.heap.size w w' := Any.strconv_Atoi_syntax_var Tryd.laysC172 s hs h tp p w hv
    exact hc.mono fun e w' ⟨N, he, _, _, hb⟩ => ⟨_, _, he, hb, .inr ⟨⟨_, _, rfl⟩, fun u hu => by cases hu⟩⟩
  · obtain ⟨tp, p, hv⟩ := hL.er
    have hc : Calls Tryd.prog 47 #[.string s] w fun e w' => ∃ N, e = .returned (.tuple #[.int .i64 (Lib.atoiSat s.data.toList), .iface 111 (.pointer (some ⟨N, 0, none⟩))]) ∧ w.heap.size ≤ N ∧ w'.heap[N]? = some (.cells #[.string ⟨#[65, 116, 111, 105]⟩, .string s, .iface tp p] 127 (0, 0)) ∧ Below w.heap.size w w' := Any.strconv_Atoi_range_var Tryd.laysC172 s hs h tp p w hv
    exact hc.mono fun e w' ⟨N, he, _, _, hb⟩ => ⟨_, _, he, hb, .inr ⟨⟨_, _, rfl⟩, fun u hu => by cases hu⟩⟩

theorem cut_any (s : ByteArray) (w : World) (hL : Lay w) (hs : s.size < 4294967281) :
    Calls Tryd.prog 46 #[.string s, .string ⟨#[46]⟩] w fun e w' => ∃ (a b : ByteArray) (f : Bool), e = .returned (.tuple #[.string a, .string b, .bool f]) ∧ Below w.heap.size w w' ∧
      a.data.toList = (Lib.cut s.data.toList [46]).1 ∧ b.data.toList = (Lib.cut s.data.toList [46]).2.1 ∧ a.size ≤ s.size ∧ b.size ≤ s.size := by
  obtain ⟨m, hm⟩ := hL.mx
  refine (Tryd.strings_Cut s ⟨#[46]⟩ m w hs hm).mono fun e w' ⟨he, n, hw⟩ => ⟨_, _, _, he, hw ▸ bd w n, rfl, rfl, ?_, ?_⟩
  · have : (Lib.cut s.data.toList [46]).1.length ≤ s.data.toList.length := by
      unfold Lib.cut
      split
      · simp only [List.length_take]; omega
      · exact Nat.le_refl _
    show (List.toArray _).size ≤ s.data.size
    rw [List.size_toArray, ← Array.length_toList]
    exact this
  · have : (Lib.cut s.data.toList [46]).2.1.length ≤ s.data.toList.length := by
      unfold Lib.cut
      split
      · simp only [List.length_drop]; omega
      · exact Nat.zero_le _
    show (List.toArray _).size ≤ s.data.size
    rw [List.size_toArray, ← Array.length_toList]
    exact this

set_option maxHeartbeats 1000000 in
theorem readOp_any (s : ByteArray) (w : World) (hL : Lay w) (hs : s.size < 4294967281) (h0 : s.data.toList ≠ [114, 111, 111, 116]) (h1 : s.data.toList ≠ [116, 114, 97, 115, 104]) :
    Calls Tryd.prog 39 #[.string s] w fun e w' => ∃ r n ok, e = .returned (.tuple #[idv r n, .bool ok]) ∧ Rd s.data.toList r n ok ∧ Below w.heap.size w w' := by
  have B0 := hid (ba w (ido 23 0 0))
  have P0 := hid (Pr.new 23 w 0 0)
  have HC := hid (cut_any s _ (hL.below B0.out) hs)
  have HL := hid hL
  have HN := hid (And.intro h0 h1)
  have HS := hid hs
  clear hL hs h0 h1
  obtain ⟨c, hc⟩ : ∃ c, w.heap.size = c := ⟨_, rfl⟩
  go_enter Tryd.func39, Tryd.ntmps39
  go_wp2_with fail
  refine HC.out.mono ?_
  rintro e w1 ⟨a, b, f, rfl, b1, ha, hb, sa, sb⟩
  have HA := hid ha
  have HB := hid hb
  have B1 := hid (bt B0.out b1)
  have P1 := hid (P0.out.below b1)
  have HZ := hid (And.intro sa sb)
  clear ha hb b1 sa sb
  go_wp2_with fail
  refine (atoi_any a w1 (HL.out.below B1.out) (by have := HZ.out.1; have := HS.out; omega)).mono ?_
  rintro e w2 ⟨v1, x1, rfl, b2, o1⟩
  have B2 := hid (bt B1.out b2)
  have P2 := hid (P1.out.below b2)
  clear b2
  go_wp2_with fail
  refine (atoi_any b w2 (HL.out.below B2.out) (by have := HZ.out.2; have := HS.out; omega)).mono ?_
  rintro e w3 ⟨v2, x2, rfl, b3, o2⟩
  have B3 := hid (bt B2.out b3)
  have P3 := P2.out.below b3
  rw [hc] at P3
  clear b3
  have P4 := P3.below (ba w3 (ido 23 v1 v2))
  have Q4 := hid P4
  have k0 := P4.c0
  have k1 := P4.c1
  have f0 := P4.f 0
  have f1 := P4.f 1
  have n1 := Pr.new 23 w3 v1 v2
  have HN1 := hid n1
  have hlt := P3.lt
  have hne : ¬ w3.heap.size = c := by omega
  have hne' : ¬ c = w3.heap.size := by omega
  clear P3 P4 n1 hlt
  rcases o1 with ⟨rfl, o1⟩ | ⟨⟨T1, p1, rfl⟩, o1⟩
  · rcases o2 with ⟨rfl, o2⟩ | ⟨⟨T2, p2, rfl⟩, o2⟩
    · have O1 := hid (o1.symm.trans (by rw [HA.out])).symm
      have O2 := hid (o2.symm.trans (by rw [HB.out])).symm
      clear o1 o2
      obtain ⟨S, hS⟩ : ∃ S : ByteArray, (⟨(sh v1 v2).toArray⟩ : ByteArray) = S := ⟨_, rfl⟩
      have B4 := hid (bt B3.out (ba w3 (ido 23 v1 v2)))
      have HSH := hid (show_any v1 v2 _ (HL.out.below B4.out))
      rw [hS] at HSH
      by_cases he : sh v1 v2 = s.data.toList
      · have e2 : S = s := by rw [← hS, he]
        subst e2
        have hrd := hid (Rd.of_op HN.out.1 HN.out.2 O1.out O2.out he)
        clear he hS
        go_wp2_with fail
        refine HSH.out.mono ?_
        rintro e w5 ⟨rfl, b5⟩
        have q5 := Q4.out.below b5
        have k0 := q5.c0
        have k1 := q5.c1
        have f0 := q5.f 0
        have f1 := q5.f 1
        have m5 := HN1.out.below b5
        have j0 := m5.c0
        have j1 := m5.c1
        have Q5 := hid q5
        have B5 := hid (bt B4.out b5)
        clear b5 q5 m5
        go_wp2_with fail
        refine bodyPost_ret (results_id2 rfl _ _ rfl (s := c) (r := v1) (n := v2) ?_) rfl ?_
        · exact (Q5.out.set0 v1).set1 v2
        · exact ⟨v1, v2, true, rfl, hrd.out, (B5.out.setCell (Nat.le_of_eq hc) _).setCell (Nat.le_of_eq hc) _⟩
      · have hne1 : (S.toList == s.toList) = false := str_ne (by rw [← hS]; exact he)
        have hrd := hid (Rd.of_none HN.out.1 HN.out.2 (fun r n e1 e2 => by
          have a1 := O1.out.symm.trans e1
          have a2 := O2.out.symm.trans e2
          simp only [Lib.NumEnd.ok.injEq] at a1 a2
          rw [← a1, ← a2]
          exact he))
        clear he hS
        go_wp2_with fail
        refine HSH.out.mono ?_
        rintro e w5 ⟨rfl, b5⟩
        have q5 := Q4.out.below b5
        have k0 := q5.c0
        have k1 := q5.c1
        have f0 := q5.f 0
        have f1 := q5.f 1
        have Q5 := hid q5
        have B5 := hid (bt B4.out b5)
        clear b5 q5
        go_wp2_with fail
        refine bodyPost_ret (results_id2 rfl _ _ rfl (s := c) (r := 0) (n := 0) ?_) rfl ?_
        · exact (Q5.out.set0 0).set1 0
        · exact ⟨0, 0, false, rfl, hrd.out, (B5.out.setCell (Nat.le_of_eq hc) _).setCell (Nat.le_of_eq hc) _⟩
    · have HRD := hid (Rd.of_none HN.out.1 HN.out.2 fun r n _ e => absurd (by rw [HB.out]; exact e) (o2 n))
      clear o1 o2
      go_wp2_with fail
      refine bodyPost_ret (results_id2 rfl _ _ rfl (s := c) (r := 0) (n := 0) ?_) rfl ?_
      · exact (Q4.out.set0 0).set1 0
      · exact ⟨0, 0, false, rfl, HRD.out, ((bt B3.out (ba w3 _)).setCell (Nat.le_of_eq hc) _).setCell (Nat.le_of_eq hc) _⟩
  · have HRD := hid (Rd.of_none HN.out.1 HN.out.2 fun r n e _ => absurd (by rw [HA.out]; exact e) (o1 r))
    clear o1 o2
    go_wp2_with fail
    refine bodyPost_ret (results_id2 rfl _ _ rfl (s := c) (r := 0) (n := 0) ?_) rfl ?_
    · exact (Q4.out.set0 0).set1 0
    · exact ⟨0, 0, false, rfl, HRD.out, ((bt B3.out (ba w3 _)).setCell (Nat.le_of_eq hc) _).setCell (Nat.le_of_eq hc) _⟩

set_option maxHeartbeats 1000000 in
theorem read_any (s : ByteArray) (w : World) (hL : Lay w) (hs : s.size < 4294967281) :
    Calls Tryd.prog 24 #[.string s] w fun e w' => ∃ r n ok, e = .returned (.tuple #[idv r n, .bool ok]) ∧ Rd s.data.toList r n ok ∧ Below w.heap.size w w' := by
  have B0 := hid (ba w (ido 23 0 0))
  have p0 := Pr.new 23 w 0 0
  have P0 := hid p0
  have r0 := fun o => ((ba w o).cell (p := ⟨1, 0, none⟩) (World.block_lt_of_cell? _ _ hL.r0)).trans hL.r0
  have r1 := fun o => ((ba w o).cell (p := ⟨1, 1, none⟩) (World.block_lt_of_cell? _ _ hL.r1)).trans hL.r1
  have t0 := fun o => ((ba w o).cell (p := ⟨0, 0, none⟩) (World.block_lt_of_cell? _ _ hL.t0)).trans hL.t0
  have t1 := fun o => ((ba w o).cell (p := ⟨0, 1, none⟩) (World.block_lt_of_cell? _ _ hL.t1)).trans hL.t1
  by_cases h0 : s.data.toList = [114, 111, 111, 116]
  · obtain rfl : s = ⟨#[114, 111, 111, 116]⟩ := Go.WideShapes.bytes_inj h0
    clear hL hs p0 h0
    obtain ⟨c, hc⟩ : ∃ c, w.heap.size = c := ⟨_, rfl⟩
    go_enter Tryd.func24, Tryd.ntmps24
    go_wp2_with fail
    refine bodyPost_ret (results_id2 rfl _ _ rfl (s := c) (r := 0) (n := 0) ?_) rfl ?_
    · exact hc ▸ Pr.new _ w 0 0
    · exact ⟨0, 0, true, rfl, .inl ⟨rfl, by decide, sh_root⟩, ba _ _⟩
  · by_cases h1 : s.data.toList = [116, 114, 97, 115, 104]
    · obtain rfl : s = ⟨#[116, 114, 97, 115, 104]⟩ := Go.WideShapes.bytes_inj h1
      clear hL hs p0 h0 h1
      obtain ⟨c, hc⟩ : ∃ c, w.heap.size = c := ⟨_, rfl⟩
      go_enter Tryd.func24, Tryd.ntmps24
      go_wp2_with fail
      refine bodyPost_ret (results_id2 rfl _ _ rfl (s := c) (r := 1) (n := 0) ?_) rfl ?_
      · exact hc ▸ Pr.new _ w 1 0
      · exact ⟨1, 0, true, rfl, .inl ⟨rfl, by decide, sh_trash⟩, ba _ _⟩
    · have n0 : (s.toList == [114, 111, 111, 116]) = false := str_not h0
      have n1 : (s.toList == [116, 114, 97, 115, 104]) = false := str_not h1
      have HO := hid (readOp_any s _ (hL.below B0.out) hs h0 h1)
      clear h0 h1 hL hs p0
      obtain ⟨c, hc⟩ : ∃ c, w.heap.size = c := ⟨_, rfl⟩
      go_enter Tryd.func24, Tryd.ntmps24
      go_wp2_with fail
      refine HO.out.mono ?_
      rintro e w1 ⟨r, n, ok, rfl, hrd, b1⟩
      have q1 := P0.out.below b1
      rw [hc] at q1
      have k0 := q1.c0
      have k1 := q1.c1
      have f0 := q1.f 0
      have f1 := q1.f 1
      have Q1 := hid q1
      have B1 := hid (bt B0.out b1)
      have HRD := hid hrd
      clear b1 q1 hrd
      go_wp2_with fail
      refine bodyPost_ret (results_id2 rfl _ _ rfl (s := c) (r := r) (n := n) ?_) rfl ?_
      · exact (Q1.out.set0 r).set1 n
      · exact ⟨r, n, ok, rfl, HRD.out, (B1.out.setCell (Nat.le_of_eq hc) _).setCell (Nat.le_of_eq hc) _⟩

end Go.Proofs.YtbcodkokacpioaaDoor
