/-
  What crc.first returns is proved here, for all slices that read as bytes: what they begin with.
-/
import Derived.Test.YtkbfkdgdommngaaCSum
import Derived.Test.YtkbfkdgdommngaaCWord
import Derived.Deep.QuietTactic
import Derived.BigQuiet
import Derived.Deep.RegionWith
namespace Go.Proofs.Ytkbfkdgdommngaa
open Go.RowKit
set_option linter.unusedVariables false

set_option maxHeartbeats 1000000 in
theorem cfirst_any (v : Value) (xs : List Int) (w : World) (h : Bs w v xs) :
    Calls Try.prog 23 #[v] w fun e w' => ∃ v', e = .returned (.tuple #[v', .int .i64 (C.wh xs : Nat)]) ∧ Bs w' v' (if C.wh xs = 0 then C.bd xs else []) ∧ Below w.heap.size w w' := by
  have hr : C.Bytes xs := h.range
  have hl := h.len
  unfold maxLen at hl
  have hB := hid h
  by_cases h8 : xs.length < 8
  · have hw : C.wh xs = 1 := by unfold C.wh; rw [if_pos h8]
    rw [hw]
    obtain ⟨a, c, rfl, _⟩ := h
    clear hB
    go_enter Try.func23, Try.ntmps23
    go_wp2
    go_ret2
    exact ⟨_, rfl, Bs.nil _, Below.refl _ _⟩
  · obtain ⟨b, off, c, rfl, hnc, hcm, hc⟩ := h.inv (by omega)
    unfold maxLen at hcm
    have hwd := C.wd_cast hr
    have hwr := C.wi_range hr
    obtain ⟨W, hW⟩ : ∃ W, C.wi xs = W := ⟨_, rfl⟩
    have hword := hid (fun (w' : World) (h' : Bs w' (.slice (some ⟨b, off, none⟩) xs.length c) xs) => hW ▸ word_any _ xs w' h' (by omega))
    rw [hW] at hwd hwr
    have hdef : C.wh xs = if 65536 < C.wd xs then 2 else if xs.length - 8 < C.wd xs then 1 else if C.sum (C.bd xs) = C.wd (xs.drop 4) then 0 else 2 := by
      conv => lhs; unfold C.wh
      rw [if_neg h8]
    have HD := hid hdef
    obtain ⟨n, hn⟩ : ∃ n, xs.length = n := ⟨_, rfl⟩
    rw [hn] at h8 hl hnc hB hword HD ⊢
    have HN := hid hn
    clear hdef hn hc h hW
    have HR := hid hr
    clear hr
    have h8' : ¬ (n : Int) < 8 := by omega
    have g8 : (8 : Int) ≤ (n : Int) := by omega
    have g8c : (8 : Int) ≤ (c : Int) := by omega
    have hk : ∃ k : Nat, C.wd xs = k := ⟨_, rfl⟩
    obtain ⟨k, hk⟩ := hk
    have HK := hid hk
    rw [hk] at hwd HD
    obtain rfl : W = (k : Int) := hwd.symm
    clear hk hwd
    have h4w := C.wd_cast (C.Bytes.drop HR.out 4)
    obtain ⟨V, hV⟩ : ∃ V, C.wi (xs.drop 4) = V := ⟨_, rfl⟩
    obtain ⟨S, hS⟩ : ∃ S, C.sum (C.bd xs) = S := ⟨_, rfl⟩
    have HS := hid hS
    rw [hS] at HD
    have HV := hid hV
    rw [hV] at h4w
    have H4 := hid h4w
    clear hS hV h4w
    have n4 : ¬ c = 4 := by omega
    have g4 : (4 : Int) ≤ (n : Int) := by omega
    have g4c : (4 : Int) ≤ (c : Int) := by omega
    have hB4 := hid (Bs.drop hB.out 4 (by omega))
    have hB8 := hid (Bs.drop hB.out 8 (by omega))
    rw [if_neg n4] at hB4
    by_cases c8 : c = 8
    · subst c8
      obtain rfl : n = 8 := by omega
      rw [if_pos rfl] at hB8
      by_cases h2 : 65536 < k
      · have h2' : (65536 : Int) < (k : Int) := by omega
        rw [if_pos h2] at HD
        rw [HD.out]
        go_enter Try.func23, Try.ntmps23
        go_wp2_with fail
        go_quiet ((go_at_call 27; exact Calls.quiet_of_same ((hword.out _ (hB.out.drewN _)).mono fun _ _ h => ⟨h.1, h.2.symm⟩)))
        go_wp2_with fail
        go_ret2
        exact ⟨_, rfl, Bs.nil _, bd _ _⟩
      · have h2' : ¬ (65536 : Int) < (k : Int) := by omega
        rw [if_neg h2] at HD
        by_cases h3 : 8 - 8 < k
        · have h3' : (0 : Int) < (k : Int) := by omega
          rw [if_pos h3] at HD
          rw [HD.out]
          go_enter Try.func23, Try.ntmps23
          go_wp2_with fail
          go_quiet ((go_at_call 27; exact Calls.quiet_of_same ((hword.out _ (hB.out.drewN _)).mono fun _ _ h => ⟨h.1, h.2.symm⟩)))
          go_wp2_with fail
          go_ret2
          exact ⟨_, rfl, Bs.nil _, bd _ _⟩
        · rw [if_neg h3] at HD
          have h3' : ¬ (0 : Int) < (k : Int) := by omega
          have hkc : (k : Int) ≤ (0 : Int) := by omega
          obtain rfl : k = 0 := by omega
          have hbd : Hid (Bs w (.slice (some ⟨b, off, none⟩) 0 (0)) (C.bd xs)) := by
            have := Bs.take hB8.out 0 (by omega)
            rw [C.bd, HK.out]
            exact this
          by_cases h5 : S = C.wd (xs.drop 4)
          · have h5' : ((S : Int) != V) = false := by have := H4.out; simp; omega
            rw [if_pos h5] at HD
            rw [HD.out, if_pos rfl]
            clear h5
            go_enter Try.func23, Try.ntmps23
            go_wp2_with fail
            go_quiet ((go_at_call 27; exact Calls.quiet_of_same ((hword.out _ (hB.out.drewN _)).mono fun _ _ h => ⟨h.1, h.2.symm⟩)))
            go_wp2_with fail
            go_region_with (first
              | (go_at_call 16; refine (sum_any _ (C.bd xs) _ ?_).mono ?_; exact hbd.out; rintro e w2 ⟨rfl, b2⟩; rw [HS.out])
              | (go_at_call 27; refine (word_any _ (xs.drop 4) _ ?_ (by rw [List.length_drop, HN.out]; omega)).mono ?_; exact Bs.below (hB4.out.drewN _) b2; rintro e w3 ⟨rfl, rfl⟩; rw [HV.out]))
            all_goals
              go_wp2
              go_ret2
              exact ⟨_, rfl, (hbd.out.drewN _).below b2, bt (bd w _) b2⟩
          · have h5' : ((S : Int) != V) = true := by have := H4.out; simp; omega
            rw [if_neg h5] at HD
            rw [HD.out, if_neg (by decide)]
            clear h5
            go_enter Try.func23, Try.ntmps23
            go_wp2_with fail
            go_quiet ((go_at_call 27; exact Calls.quiet_of_same ((hword.out _ (hB.out.drewN _)).mono fun _ _ h => ⟨h.1, h.2.symm⟩)))
            go_wp2_with fail
            go_region_with (first
              | (go_at_call 16; refine (sum_any _ (C.bd xs) _ ?_).mono ?_; exact hbd.out; rintro e w2 ⟨rfl, b2⟩; rw [HS.out])
              | (go_at_call 27; refine (word_any _ (xs.drop 4) _ ?_ (by rw [List.length_drop, HN.out]; omega)).mono ?_; exact Bs.below (hB4.out.drewN _) b2; rintro e w3 ⟨rfl, rfl⟩; rw [HV.out]))
            all_goals
              go_wp2
              go_ret2
              exact ⟨_, rfl, Bs.nil _, bt (bd w _) b2⟩
    · rw [if_neg c8] at hB8
      by_cases h2 : 65536 < k
      · have h2' : (65536 : Int) < (k : Int) := by omega
        rw [if_pos h2] at HD
        rw [HD.out]
        go_enter Try.func23, Try.ntmps23
        go_wp2_with fail
        go_quiet ((go_at_call 27; exact Calls.quiet_of_same ((hword.out _ (hB.out.drewN _)).mono fun _ _ h => ⟨h.1, h.2.symm⟩)))
        go_wp2_with fail
        go_ret2
        exact ⟨_, rfl, Bs.nil _, bd _ _⟩
      · have h2' : ¬ (65536 : Int) < (k : Int) := by omega
        rw [if_neg h2] at HD
        by_cases h3 : n - 8 < k
        · have h3' : ((n - 8 : Nat) : Int) < (k : Int) := by omega
          rw [if_pos h3] at HD
          rw [HD.out]
          go_enter Try.func23, Try.ntmps23
          go_wp2_with fail
          go_quiet ((go_at_call 27; exact Calls.quiet_of_same ((hword.out _ (hB.out.drewN _)).mono fun _ _ h => ⟨h.1, h.2.symm⟩)))
          go_wp2_with fail
          go_ret2
          exact ⟨_, rfl, Bs.nil _, bd _ _⟩
        · rw [if_neg h3] at HD
          have h3' : ¬ ((n - 8 : Nat) : Int) < (k : Int) := by omega
          have hkc : (k : Int) ≤ ((c - 8 : Nat) : Int) := by omega
          have hbd : Hid (Bs w (.slice (some ⟨b, off + 8, none⟩) k (c - 8)) (C.bd xs)) := by
            have := Bs.take hB8.out k (by omega)
            rw [C.bd, HK.out]
            exact this
          by_cases h5 : S = C.wd (xs.drop 4)
          · have h5' : ((S : Int) != V) = false := by have := H4.out; simp; omega
            rw [if_pos h5] at HD
            rw [HD.out, if_pos rfl]
            clear h5
            go_enter Try.func23, Try.ntmps23
            go_wp2_with fail
            go_quiet ((go_at_call 27; exact Calls.quiet_of_same ((hword.out _ (hB.out.drewN _)).mono fun _ _ h => ⟨h.1, h.2.symm⟩)))
            go_wp2_with fail
            go_region_with (first
              | (go_at_call 16; refine (sum_any _ (C.bd xs) _ ?_).mono ?_; exact hbd.out; rintro e w2 ⟨rfl, b2⟩; rw [HS.out])
              | (go_at_call 27; refine (word_any _ (xs.drop 4) _ ?_ (by rw [List.length_drop, HN.out]; omega)).mono ?_; exact Bs.below (hB4.out.drewN _) b2; rintro e w3 ⟨rfl, rfl⟩; rw [HV.out]))
            all_goals
              go_wp2
              go_ret2
              exact ⟨_, rfl, (hbd.out.drewN _).below b2, bt (bd w _) b2⟩
          · have h5' : ((S : Int) != V) = true := by have := H4.out; simp; omega
            rw [if_neg h5] at HD
            rw [HD.out, if_neg (by decide)]
            clear h5
            go_enter Try.func23, Try.ntmps23
            go_wp2_with fail
            go_quiet ((go_at_call 27; exact Calls.quiet_of_same ((hword.out _ (hB.out.drewN _)).mono fun _ _ h => ⟨h.1, h.2.symm⟩)))
            go_wp2_with fail
            go_region_with (first
              | (go_at_call 16; refine (sum_any _ (C.bd xs) _ ?_).mono ?_; exact hbd.out; rintro e w2 ⟨rfl, b2⟩; rw [HS.out])
              | (go_at_call 27; refine (word_any _ (xs.drop 4) _ ?_ (by rw [List.length_drop, HN.out]; omega)).mono ?_; exact Bs.below (hB4.out.drewN _) b2; rintro e w3 ⟨rfl, rfl⟩; rw [HV.out]))
            all_goals
              go_wp2
              go_ret2
              exact ⟨_, rfl, Bs.nil _, bt (bd w _) b2⟩

end Go.Proofs.Ytkbfkdgdommngaa
