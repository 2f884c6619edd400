/-
  StampBack: a block's name is read as it was shown; what is none is shown so that it isn't read: for every two names, where the package variables hold what the program lays there.
-/
import Derived.Test.YtbcodkokacpioaaDoorSAlive
import Derived.Test.YtbcodkokacpioaaDoorSQuiet
namespace Go.Proofs.YtbcodkokacpioaaDoor
open Go.RowKit
set_option linter.unusedVariables false

section
variable {P : Program} {ops : Array Oper} {C : World → Prop} {Q : Act → Prop} {a : Act} {l : List Oper}
/-- The first n operations ahead of a tail that is not looked at. -/
theorem wpQuiet_split (n : Nat) (h : ∀ R, l.drop n = R → wpQuiet P ops C Q (l.take n ++ R) a) : wpQuiet P ops C Q l a := by
  have := h _ rfl
  rwa [List.take_append_drop] at this
/-- Operations that their guards leave out; their slots are empty as they were. -/
theorem wpQuiet_over : ∀ (l : List Oper) (n : Nat), (∀ o ∈ l.take n, Region.wanted o (yielded ops a.tmps) = false ∧ a.put o.dst undef = a) → wpQuiet P ops C Q (l.drop n) a → wpQuiet P ops C Q l a
  | l, 0, _, h => h
  | [], n + 1, _, h => by simpa using h
  | o :: l, n + 1, h0, h => by
    obtain ⟨h1, h2⟩ := h0 o (by simp)
    refine BigFrame.wpQuiet_skip h1 ?_
    rw [h2]
    exact wpQuiet_over l n (fun o' ho => h0 o' (by simp [ho])) h
theorem wpQuiet_over2 {R : List Oper} (n : Nat) (hR : l = R) (h0 : ∀ o ∈ l.take n, Region.wanted o (yielded ops a.tmps) = false ∧ a.put o.dst undef = a)
    (h : ∀ R2, l.drop n = R2 → wpQuiet P ops C Q R2 a) : wpQuiet P ops C Q R a := by
  subst hR
  exact wpQuiet_over l n h0 (h _ rfl)
end

theorem sh_len (r n : Int) : (⟨(sh r n).toArray⟩ : ByteArray).size < 4294967281 := by
  show (List.toArray _).size < _
  rw [List.size_toArray]
  cases h : ro r n with
  | true =>
    have hb := h
    simp [ro] at hb
    rw [sh_op h]
    have h1 := dec_short (n := r) (by omega)
    have h2 := dec_short (n := n) (by omega)
    simp
    omega
  | false =>
    unfold sh
    split
    · decide
    · split
      · decide
      · rw [if_neg (by rw [h]; simp)]; decide

set_option maxHeartbeats 4000000 in
set_option maxRecDepth 100000 in
theorem back_walk (r n i j : Int) (w : World) (hL : Lay w) :
    Calls Tryd.prog 5 #[idv r n, idv i j] w fun e w' => e = .returned (.bool true) ∧ Below w.heap.size w w' := by
  have B0 := hid (bt (ba w (ido 23 r n)) (ba _ (ido 23 i j)))
  have HL := hid hL
  have HA := hid (alive_any _ (hL.below B0.out))
  have P0 := hid ((Pr.new 23 w r n).below (ba _ (ido 23 i j)))
  have R0 := hid (Pr.new 23 (w.alloc (ido 23 r n)) i j)
  have hsz : (w.alloc (ido 23 r n)).heap.size = w.heap.size + 1 := by simp
  rw [hsz] at R0
  obtain ⟨S1, hS1⟩ : ∃ S : ByteArray, (⟨(sh r n).toArray⟩ : ByteArray) = S := ⟨_, rfl⟩
  have HSH := hid (fun W (hW : Lay W) => show_any r n W hW)
  have HRE := hid (fun W (hW : Lay W) => read_any ⟨(sh r n).toArray⟩ W hW (sh_len r n))
  rw [hS1] at HSH HRE
  have HS1 := hid hS1
  clear hL hsz hS1
  go_enter Tryd.func5, Tryd.ntmps5
  go_wp2_with fail
  refine HA.out.mono ?_
  rintro e w1 ⟨rfl, b1⟩
  have B1 := hid (bt B0.out b1)
  have P1 := P0.out.below b1
  have R1 := hid (R0.out.below b1)
  obtain ⟨s, hs⟩ : ∃ s, w.heap.size = s := ⟨_, rfl⟩
  rw [hs] at P1 R1
  have k0 := P1.c0
  have k1 := P1.c1
  have HP1 := hid P1
  clear P1 b1
  go_wp2_with fail
  refine (HSH.out _ (HL.out.below B1.out)).mono ?_
  rintro e w2 ⟨rfl, b2⟩
  have B2 := hid (bt B1.out b2)
  have P2 := hid (HP1.out.below b2)
  have R2 := hid (R1.out.below b2)
  clear b2
  go_wp2_with fail
  refine (HRE.out _ (HL.out.below B2.out)).mono ?_
  rintro e w3 ⟨r', n', ok, rfl, hrd, b3⟩
  rw [show S1.data.toList = sh r n by rw [← HS1.out]] at hrd
  have B3 := hid (bt (bt B2.out b3) (ba w3 (ido 23 r' n')))
  have P3 := (P2.out.below b3).below (ba w3 (ido 23 r' n'))
  have R3 := hid ((R2.out.below b3).below (ba w3 (ido 23 r' n')))
  have X3 := hid (Pr.new 23 w3 r' n')
  have j0 := P3.c0
  have j1 := P3.c1
  have HP3 := hid P3
  clear b3 P3 k0 k1
  go_wp2_with fail
  refine (rb_any r n _ (HL.out.below B3.out)).mono ?_
  rintro e w4 ⟨rfl, b4⟩
  have B4 := hid (bt B3.out b4)
  have P4 := HP3.out.below b4
  have X4 := X3.out.below b4
  have R4 := hid (R3.out.below b4)
  have i0 := P4.c0
  have i1 := P4.c1
  have y0 := X4.c0
  have y1 := X4.c1
  have HP4 := hid P4
  clear P4 X4 b4 j0 j1
  cases hb : rb r n
  · obtain ⟨rfl, rfl, rfl⟩ := hrd.same ((Rd.shown r n).2 hb)
    clear hrd
    go_wp2_with fail
    go_quiet (fail)
    go_wp2_with fail
    go_ret
    exact ⟨rfl, bt B4.out (bd _ _)⟩
  · obtain ⟨rfl, rfl, rfl⟩ := hrd.same ((Rd.shown r n).1 hb)
    clear hrd
    cases hij : rb i j
    · go_wp2_with fail
      refine wp_region_class (C := fun W => Below w4.heap.size w4 W) (by kernel_rfl) (by kernel_rfl) (bd w4 1) ?_
      refine wpQuiet_split 8 ?_
      intro R hR
      have HR := hid hR
      clear hR
      simp only [List.take_succ_cons, List.take_zero, List.cons_append, List.nil_append]
      refine BigFrame.wpQuiet_want (by kernel_rfl) (fun K hK => ?_)
      refine q_val (.bool true) (fun W hW => ?_) ?_
      · go_simp
      go_simp
      refine hK _ ?_
      clear hK K
      refine BigFrame.wpQuiet_want (by kernel_rfl) (fun K hK => ?_)
      refine q_val (.bool false) (fun W hW => ?_) ?_
      · go_simp
      go_simp
      refine hK _ ?_
      clear hK K
      refine BigFrame.wpQuiet_want (by kernel_rfl) (fun K hK => ?_)
      refine q_val (.bool false) (fun W hW => ?_) ?_
      · go_simp
      go_simp
      refine hK _ ?_
      clear hK K
      refine BigFrame.wpQuiet_want (by kernel_rfl) (fun K hK => ?_)
      refine q_val (idv i j) (fun W hW => ?_) ?_
      · have c0 := (R4.out.below hW).c0
        have c1 := (R4.out.below hW).c1
        go_simp
      go_simp
      refine hK _ ?_
      clear hK K
      refine BigFrame.wpQuiet_want (by kernel_rfl) (fun K hK => ?_)
      refine q_call (f := 12) (args := #[idv i j]) (.bool false) (fun W => ?_) (fun W hW => ?_) ?_
      · go_simp
      · exact (rb_any i j W (HL.out.below (bt B4.out hW))).mono fun e W' ⟨he, hb'⟩ => ⟨by rw [he, hij], bt hW hb'⟩
      go_simp
      refine hK _ ?_
      clear hK K
      refine BigFrame.wpQuiet_want (by kernel_rfl) (fun K hK => ?_)
      refine q_val (.bool true) (fun W hW => ?_) ?_
      · go_simp
      go_simp
      refine hK _ ?_
      clear hK K
      refine BigFrame.wpQuiet_want (by kernel_rfl) (fun K hK => ?_)
      refine q_val (.bool true) (fun W hW => ?_) ?_
      · go_simp
      go_simp
      refine hK _ ?_
      clear hK K
      refine BigFrame.wpQuiet_want (by kernel_rfl) (fun K hK => ?_)
      refine q_val (.bool true) (fun W hW => ?_) ?_
      · go_simp
      go_simp
      refine hK _ ?_
      clear hK K
      refine wpQuiet_over2 9 HR.out ?_ ?_
      · intro o ho
        simp only [List.drop_succ_cons, List.drop_zero, List.take_succ_cons, List.take_zero, List.mem_cons, List.not_mem_nil, or_false] at ho
        rcases ho with rfl | rfl | rfl | rfl | rfl | rfl | rfl | rfl | rfl <;> exact ⟨by kernel_rfl, by kernel_rfl⟩
      intro R2 hR2
      simp only [List.drop_succ_cons, List.drop_zero] at hR2
      subst hR2
      refine BigFrame.wpQuiet_want (by kernel_rfl) (fun K hK => ?_)
      refine q_val (.bool true) (fun W hW => ?_) ?_
      · go_simp
      go_simp
      refine hK _ ?_
      clear hK K
      refine BigFrame.wpQuiet_want (by kernel_rfl) (fun K hK => ?_)
      refine q_val (.bool true) (fun W hW => ?_) ?_
      · go_simp
      go_simp
      refine hK _ ?_
      clear hK K
      refine wpQuiet_nil ?_
      intro W hW
      go_wp2_with fail
      go_ret
      exact ⟨rfl, bt B4.out hW⟩
    · have hS1 := HS1.out
      obtain ⟨S2, hS2⟩ : ∃ S : ByteArray, (⟨(sh i j).toArray⟩ : ByteArray) = S := ⟨_, rfl⟩
      obtain ⟨E, hE0⟩ : ∃ E, (r' == i && n' == j) = E := ⟨_, rfl⟩
      have hE : (S1.toList == S2.toList) = E := by
        by_cases he : r' = i ∧ n' = j
        · rw [← hE0, ← hS1, ← hS2, he.1, he.2]; simp
        · rw [str_ne (by
            rw [← hS1, ← hS2]
            intro e
            exact he (sh_inj hb hij (by simpa using e))), ← hE0]
          simp
          omega
      have H1 := hid hS1
      have H2 := hid hS2
      have HE0 := hid hE0
      clear hS1 hS2 hE0
      go_wp2_with fail
      refine wp_region_class (C := fun W => Below w4.heap.size w4 W) (by kernel_rfl) (by kernel_rfl) (bd w4 1) ?_
      refine BigFrame.wpQuiet_want (by kernel_rfl) (fun K hK => ?_)
      refine q_val (.bool true) (fun W hW => ?_) ?_
      · go_simp
      go_simp
      refine hK _ ?_
      clear hK K
      refine BigFrame.wpQuiet_want (by kernel_rfl) (fun K hK => ?_)
      refine q_val (.bool false) (fun W hW => ?_) ?_
      · go_simp
      go_simp
      refine hK _ ?_
      clear hK K
      refine BigFrame.wpQuiet_want (by kernel_rfl) (fun K hK => ?_)
      refine q_val (.bool false) (fun W hW => ?_) ?_
      · go_simp
      go_simp
      refine hK _ ?_
      clear hK K
      refine BigFrame.wpQuiet_want (by kernel_rfl) (fun K hK => ?_)
      refine q_val (idv i j) (fun W hW => ?_) ?_
      · have c0 := (R4.out.below hW).c0
        have c1 := (R4.out.below hW).c1
        go_simp
      go_simp
      refine hK _ ?_
      clear hK K
      refine BigFrame.wpQuiet_want (by kernel_rfl) (fun K hK => ?_)
      refine q_call (f := 12) (args := #[idv i j]) (.bool true) (fun W => ?_) (fun W hW => ?_) ?_
      · go_simp
      · exact (rb_any i j W (HL.out.below (bt B4.out hW))).mono fun e W' ⟨he, hb'⟩ => ⟨by rw [he, hij], bt hW hb'⟩
      go_simp
      refine hK _ ?_
      clear hK K
      refine BigFrame.wpQuiet_want (by kernel_rfl) (fun K hK => ?_)
      refine q_val (.bool false) (fun W hW => ?_) ?_
      · go_simp
      go_simp
      refine hK _ ?_
      clear hK K
      refine BigFrame.wpQuiet_want (by kernel_rfl) (fun K hK => ?_)
      refine q_val (.bool false) (fun W hW => ?_) ?_
      · go_simp
      go_simp
      refine hK _ ?_
      clear hK K
      refine BigFrame.wpQuiet_want (by kernel_rfl) (fun K hK => ?_)
      refine q_val (.bool false) (fun W hW => ?_) ?_
      · go_simp
      go_simp
      refine hK _ ?_
      clear hK K
      refine BigFrame.wpQuiet_want (by kernel_rfl) (fun K hK => ?_)
      refine q_val (idv r' n') (fun W hW => ?_) ?_
      · have c0 := (HP4.out.below hW).c0
        have c1 := (HP4.out.below hW).c1
        go_simp
      go_simp
      refine hK _ ?_
      clear hK K
      refine BigFrame.wpQuiet_want (by kernel_rfl) (fun K hK => ?_)
      refine q_call (f := 22) (args := #[idv r' n']) (.string S1) (fun W => ?_) (fun W hW => ?_) ?_
      · go_simp
      · exact (show_any r' n' W (HL.out.below (bt B4.out hW))).mono fun e W' ⟨he, hb'⟩ => ⟨by rw [he, H1.out], bt hW hb'⟩
      go_simp
      refine hK _ ?_
      clear hK K
      refine BigFrame.wpQuiet_want (by kernel_rfl) (fun K hK => ?_)
      refine q_val (idv i j) (fun W hW => ?_) ?_
      · have c0 := (R4.out.below hW).c0
        have c1 := (R4.out.below hW).c1
        go_simp
      go_simp
      refine hK _ ?_
      clear hK K
      refine BigFrame.wpQuiet_want (by kernel_rfl) (fun K hK => ?_)
      refine q_call (f := 22) (args := #[idv i j]) (.string S2) (fun W => ?_) (fun W hW => ?_) ?_
      · go_simp
      · exact (show_any i j W (HL.out.below (bt B4.out hW))).mono fun e W' ⟨he, hb'⟩ => ⟨by rw [he, H2.out], bt hW hb'⟩
      go_simp
      refine hK _ ?_
      clear hK K
      refine BigFrame.wpQuiet_want (by kernel_rfl) (fun K hK => ?_)
      refine q_val (.bool E) (fun W hW => ?_) ?_
      · go_simp
      go_simp
      refine hK _ ?_
      clear hK K
      refine BigFrame.wpQuiet_want (by kernel_rfl) (fun K hK => ?_)
      refine q_val (idv r' n') (fun W hW => ?_) ?_
      · have c0 := (HP4.out.below hW).c0
        have c1 := (HP4.out.below hW).c1
        go_simp
      go_simp
      refine hK _ ?_
      clear hK K
      refine BigFrame.wpQuiet_want (by kernel_rfl) (fun K hK => ?_)
      refine q_val (idv i j) (fun W hW => ?_) ?_
      · have c0 := (R4.out.below hW).c0
        have c1 := (R4.out.below hW).c1
        go_simp
      go_simp
      refine hK _ ?_
      clear hK K
      refine BigFrame.wpQuiet_want (by kernel_rfl) (fun K hK => ?_)
      refine q_val (.bool E) (fun W hW => ?_) ?_
      · rw [← HE0.out]
        cases h1 : (r' == i) <;> cases h2 : (n' == j) <;> go_simp
      go_simp
      refine hK _ ?_
      clear hK K
      refine BigFrame.wpQuiet_want (by kernel_rfl) (fun K hK => ?_)
      refine q_val (.bool true) (fun W hW => ?_) ?_
      · go_simp
      go_simp
      refine hK _ ?_
      clear hK K
      refine BigFrame.wpQuiet_want (by kernel_rfl) (fun K hK => ?_)
      refine q_val (.bool true) (fun W hW => ?_) ?_
      · go_simp
      go_simp
      refine hK _ ?_
      clear hK K
      refine BigFrame.wpQuiet_want (by kernel_rfl) (fun K hK => ?_)
      refine q_val (.bool true) (fun W hW => ?_) ?_
      · go_simp
      go_simp
      refine hK _ ?_
      clear hK K
      refine wpQuiet_nil ?_
      intro W hW
      go_wp2_with fail
      go_ret
      exact ⟨rfl, bt B4.out hW⟩

end Go.Proofs.YtbcodkokacpioaaDoor
