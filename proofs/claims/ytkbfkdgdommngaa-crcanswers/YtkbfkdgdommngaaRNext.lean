/-
  What the reference's Next returns is proved here, for all slices that read as bytes, of at most 2^47 of them, and every place.
-/
import Derived.Test.YtkbfkdgdommngaaRFrame
import Derived.Test.YtkbfkdgdommngaaCNext
namespace Go.Proofs.Ytkbfkdgdommngaa
open Go.RowKit
set_option linter.unusedVariables false

set_option maxHeartbeats 400000 in
theorem refnext_wrong (v : Value) (xs : List Int) (n : Int) (w : World) (h : Bs w v xs) (hn : n < 0 ∨ (xs.length : Int) < n) :
    Calls Try.prog 13 #[v, .int .i64 n] w fun e w' => e = .returned (.tuple #[.slice none 0 0, .int .i64 0, .int .i64 2]) ∧ w = w' := by
  have hl := h.len
  unfold maxLen at hl
  obtain ⟨a, c, rfl, _⟩ := h
  by_cases h0 : n < 0
  · clear hn
    go_enter Try.func13, Try.ntmps13
    go_wp2
    go_ret3
    exact ⟨rfl, rfl⟩
  · have h1 : (xs.length : Int) < n := by omega
    have h0' : decide (n < 0) = false := by simpa using h0
    clear hn
    go_enter Try.func13, Try.ntmps13
    go_wp2
    go_ret3
    exact ⟨rfl, rfl⟩

set_option maxHeartbeats 1000000 in
theorem refnext_any (v : Value) (xs : List Int) (p : Nat) (w : World) (h : Bs w v xs) (hp : p ≤ xs.length) (hl : xs.length ≤ 140737488355328) :
    Calls Try.prog 13 #[v, .int .i64 p] w fun e w' => ∃ v', e = .returned (.tuple #[v', .int .i64 (nxP xs p), .int .i64 (C.wh (xs.drop p) : Nat)]) ∧ Bs w' v' (nxV xs p) ∧ Below w.heap.size w w' ∧ Fresh w.heap.size v' := by
  have hB := hid h
  have hv : ∃ a c, v = .slice a xs.length c ∧ xs.length ≤ c := by
    obtain ⟨a, c, e, h2, _⟩ := h
    exact ⟨a, c, e, h2⟩
  obtain ⟨a, c, rfl, hlc⟩ := hv
  have hD := hid (Bs.drop h p hp)
  have hp0 : decide ((p : Int) < 0) = false := by simp
  have hpn : ¬ (xs.length : Int) < (p : Int) := by omega
  have hpc : (p : Int) ≤ (c : Int) := by omega
  have hpl : (p : Int) ≤ (xs.length : Int) := by omega
  have hV := hid (show nxV xs p = if C.wh (xs.drop p) = 0 then C.bd (xs.drop p) else [] from rfl)
  have hP := hid (show nxP xs p = if C.wh (xs.drop p) = 0 then p + 8 + C.wd (xs.drop p) else p from rfl)
  have hnil : ∀ B : Nat, Fresh B (.slice none 0 0) := fun B x n c e => by cases e
  by_cases h8 : xs.length - p < 8
  · have hw : C.wh (xs.drop p) = 1 := by unfold C.wh; rw [List.length_drop, if_pos h8]
    rw [hw, if_neg (by decide)] at hV hP
    rw [hw]
    have h8' : ((xs.length - p : Nat) : Int) < 8 := by omega
    clear hw h hD hB
    by_cases hcp : c = p
    · subst hcp
      have hxc : xs.length = c := by omega
      rw [hxc] at hpn hpl hl ⊢
      clear hxc h8 h8'
      go_enter Try.func13, Try.ntmps13
      go_wp2
      go_ret3
      rw [hP.out, hV.out]
      exact ⟨_, rfl, Bs.nil _, Below.refl _ _, hnil _⟩
    · go_enter Try.func13, Try.ntmps13
      go_wp2
      go_ret3
      rw [hP.out, hV.out]
      exact ⟨_, rfl, Bs.nil _, Below.refl _ _, hnil _⟩
  · have hcp : ¬ c = p := by omega
    rw [if_neg hcp] at hD
    obtain ⟨b, off, c', e, _, _, _⟩ := h.inv (by omega)
    simp only [Value.slice.injEq] at e
    obtain ⟨rfl, -, rfl⟩ := e
    have eadd : Option.map (fun x => x.add p) (some ⟨b, off, none⟩ : Option Addr) = some ⟨b, off + p, none⟩ := by
      simp only [Option.map_some, Addr.add_lit]
    rw [eadd] at hD
    have hlen := hid (show (xs.drop p).length = xs.length - p from List.length_drop)
    obtain ⟨ys, hys⟩ : ∃ ys, xs.drop p = ys := ⟨_, rfl⟩
    rw [hys] at hV hP hD hlen ⊢
    clear hys h hB
    have hr : C.Bytes ys := hD.out.range
    have hwd := C.wd_cast hr
    obtain ⟨k, hk⟩ : ∃ k, C.wd ys = k := ⟨_, rfl⟩
    have hkr : k < 4294967296 := by have := C.wi_range hr; omega
    have hdef : C.wh ys = if 65536 < k then 2 else if xs.length - p - 8 < k then 1 else if C.sum (C.bd ys) = C.wd (ys.drop 4) then 0 else 2 := by
      conv => lhs; unfold C.wh
      rw [hlen.out, if_neg h8, hk]
    have HD := hid hdef
    have HK := hid hk
    have HWD := hid hwd
    have HR := hid hr
    clear hdef hwd hk hr eadd
    have h8' : ¬ ((xs.length - p : Nat) : Int) < 8 := by omega
    go_enter Try.func13, Try.ntmps13
    go_wp2_with fail
    refine (number_any _ ys _ hD.out (by rw [hlen.out]; omega)).mono ?_
    rintro e w1 ⟨rfl, q1, rfl⟩
    rw [← HWD.out, HK.out]
    obtain ⟨R, hR⟩ : ∃ R, xs.length - p = R := ⟨_, rfl⟩
    obtain ⟨Q, hQ⟩ : ∃ Q, c - p = Q := ⟨_, rfl⟩
    have hRQ : R ≤ Q := by omega
    have hRb : R ≤ 140737488355328 := by omega
    have h8R : 8 ≤ R := by omega
    rw [hR] at hD hlen HD h8' ⊢
    rw [hQ] at hD ⊢
    clear hR hQ h8
    by_cases h2 : 65536 < k
    · have h2' : (65536 : Int) < (k : Int) := by omega
      rw [if_pos h2] at HD
      rw [HD.out, if_neg (by decide)] at hV hP
      go_wp2
      go_ret3
      rw [hP.out, hV.out, HD.out]
      exact ⟨_, rfl, Bs.nil _, bd _ _, hnil _⟩
    · have h2' : ¬ (65536 : Int) < (k : Int) := by omega
      rw [if_neg h2] at HD
      by_cases h3 : R - 8 < k
      · have h3' : (R : Int) - 8 < (k : Int) := by omega
        rw [if_pos h3] at HD
        rw [HD.out, if_neg (by decide)] at hV hP
        go_wp2
        go_ret3
        rw [hP.out, hV.out, HD.out]
        exact ⟨_, rfl, Bs.nil _, bd _ _, hnil _⟩
      · have h3' : ¬ (R : Int) - 8 < (k : Int) := by omega
        rw [if_neg h3] at HD
        have hkQ : (8 : Int) + (k : Int) ≤ (Q : Int) := by omega
        have hD8 := Bs.drop hD.out 8 h8R
        have hD4 := Bs.drop hD.out 4 (by omega)
        have hbl : (C.bd ys).length = k := by rw [C.bd, HK.out, List.length_take, List.length_drop, hlen.out]; omega
        have g4 : (4 : Int) ≤ (R : Int) := by omega
        have g4Q : (4 : Int) ≤ (Q : Int) := by omega
        have n4 : ¬ Q = 4 := by omega
        rw [if_neg n4] at hD4
        have e4 : Option.map (fun x => x.add 4) (some ⟨b, off + p, none⟩ : Option Addr) = some ⟨b, off + p + 4, none⟩ := by
          simp only [Option.map_some, Addr.add_lit]
        rw [e4] at hD4
        have HD4 := hid hD4
        clear hD4 e4
        by_cases q8 : Q = 8
        · subst q8
          have hk0 : k = 0 := by omega
          subst hk0
          rw [if_pos rfl] at hD8
          have hR8 : R = 8 := by omega
          subst hR8
          have HT := hid (Bs.take hD8 0 (by omega))
          clear hD8
          have HB : Hid (Bs w (.slice (some ⟨b, off + p, none⟩) 0 0) (C.bd ys)) := by
            have := HT.out
            rw [C.bd, HK.out]
            exact this
          have hb1 : Below w.heap.size w ((w.drewN q1).alloc (.cells #[] 5)) := (bd w q1).alloc (Nat.le_refl _) _
          have hown0 : ((w.drewN q1).alloc (.cells #[] 5)).ownsRow w.heap.size 5 1 (.slice (some ⟨w.heap.size, 0, none⟩) 0 0) 0 (cs []) := World.ownsRow_made (w.drewN q1) #[] 0 (Nat.le_refl _) (Nat.zero_le _) rfl
          have hsb := hid (fun w' v' (h' : Bs w' v' (C.bd ys)) => refsum_any v' (C.bd ys) w' h')
          have hnb := hid (fun w' v' (h' : Bs w' v' (ys.drop 4)) => number_any v' (ys.drop 4) w' h' (by rw [List.length_drop, hlen.out]; omega))
          have h4w := C.wd_cast (C.Bytes.drop HR.out 4)
          obtain ⟨V, hVV⟩ : ∃ V, C.wi (ys.drop 4) = V := ⟨_, rfl⟩
          obtain ⟨S, hSS⟩ : ∃ S, C.sum (C.bd ys) = S := ⟨_, rfl⟩
          rw [hVV] at h4w hnb
          rw [hSS] at HD hsb
          have H4 := hid h4w
          clear h4w hVV hSS HT
          go_wp2_with (at_builtin; refine wpList_append_bs rfl (.tmp 37) (.tmp 41) rfl w.heap.size _ _ [] rfl hown0 _ (C.bd ys) rfl (HB.out.below hb1) (by rw [hbl]; omega) hb1.size ?_; intro v3 w3 hown3 hgrow3 hat3; rw [Nat.zero_add, hbl, List.nil_append] at hown3; obtain ⟨a3, c3, rfl, _⟩ := own_form hown3)
          have b3 : Below w.heap.size w w3 := hb1.grown hgrow3 hb1.size (fun k hk => (hown0.lt k hk).1)
          have hB3 := hid (Bs.of_own hown3 (C.Bytes.take (C.Bytes.drop HR.out 8) _))
          have hF3 := hid (Fresh.of_own hown3)
          have hR3 := hid (HD4.out.below b3)
          clear hown3 hgrow3 hat3 hown0 hb1 HB
          by_cases h5 : S = C.wd (ys.drop 4)
          · have h5' : ((S : Int) != V) = false := by have := H4.out; simp; omega
            rw [if_pos h5] at HD
            rw [HD.out, if_pos rfl] at hV hP
            clear h5
            go_quiet ((first
              | (go_at_call 17; exact Calls.quiet_of_same ((hsb.out _ _ (hB3.out.drewN _)).mono fun _ _ h => ⟨h.1, h.2.symm⟩))
              | (go_at_call 25; exact Calls.quiet_of (hnb.out _ _ (hR3.out.drewN _)))))
            go_wp2
            go_ret3
            rw [hP.out, hV.out, HD.out]
            refine ⟨_, ret3_eq ?_, hB3.out.drewN _, bt b3 (bd _ _), hF3.out⟩
            rw [HK.out]
            omega
          · have h5' : ((S : Int) != V) = true := by have := H4.out; simp; omega
            rw [if_neg h5] at HD
            rw [HD.out, if_neg (by decide)] at hV hP
            clear h5
            go_quiet ((first
              | (go_at_call 17; exact Calls.quiet_of_same ((hsb.out _ _ (hB3.out.drewN _)).mono fun _ _ h => ⟨h.1, h.2.symm⟩))
              | (go_at_call 25; exact Calls.quiet_of (hnb.out _ _ (hR3.out.drewN _)))))
            go_wp2
            go_ret3
            rw [hP.out, hV.out, HD.out]
            exact ⟨_, rfl, Bs.nil _, bt b3 (bd _ _), hnil _⟩
        · rw [if_neg q8] at hD8
          have e8 : Option.map (fun x => x.add 8) (some ⟨b, off + p, none⟩ : Option Addr) = some ⟨b, off + p + 8, none⟩ := by
            simp only [Option.map_some, Addr.add_lit]
          rw [e8] at hD8
          have HT := hid (Bs.take hD8 k (by omega))
          clear hD8 e8
          have HB : Hid (Bs w (.slice (some ⟨b, off + p + 8, none⟩) (8 + k - 8) (Q - 8)) (C.bd ys)) := by
            have := HT.out
            rw [C.bd, HK.out, Nat.add_sub_cancel_left]
            exact this
          have hb1 : Below w.heap.size w ((w.drewN q1).alloc (.cells #[] 5)) := (bd w q1).alloc (Nat.le_refl _) _
          have hown0 : ((w.drewN q1).alloc (.cells #[] 5)).ownsRow w.heap.size 5 1 (.slice (some ⟨w.heap.size, 0, none⟩) 0 0) 0 (cs []) := World.ownsRow_made (w.drewN q1) #[] 0 (Nat.le_refl _) (Nat.zero_le _) rfl
          have hsb := hid (fun w' v' (h' : Bs w' v' (C.bd ys)) => refsum_any v' (C.bd ys) w' h')
          have hnb := hid (fun w' v' (h' : Bs w' v' (ys.drop 4)) => number_any v' (ys.drop 4) w' h' (by rw [List.length_drop, hlen.out]; omega))
          have h4w := C.wd_cast (C.Bytes.drop HR.out 4)
          obtain ⟨V, hVV⟩ : ∃ V, C.wi (ys.drop 4) = V := ⟨_, rfl⟩
          obtain ⟨S, hSS⟩ : ∃ S, C.sum (C.bd ys) = S := ⟨_, rfl⟩
          rw [hVV] at h4w hnb
          rw [hSS] at HD hsb
          have H4 := hid h4w
          clear h4w hVV hSS HT
          go_wp2_with (at_builtin; refine wpList_append_bs rfl (.tmp 37) (.tmp 41) rfl w.heap.size _ _ [] rfl hown0 _ (C.bd ys) rfl (HB.out.below hb1) (by rw [hbl]; omega) hb1.size ?_; intro v3 w3 hown3 hgrow3 hat3; rw [Nat.zero_add, hbl, List.nil_append] at hown3; obtain ⟨a3, c3, rfl, _⟩ := own_form hown3)
          have b3 : Below w.heap.size w w3 := hb1.grown hgrow3 hb1.size (fun k hk => (hown0.lt k hk).1)
          have hB3 := hid (Bs.of_own hown3 (C.Bytes.take (C.Bytes.drop HR.out 8) _))
          have hF3 := hid (Fresh.of_own hown3)
          have hR3 := hid (HD4.out.below b3)
          clear hown3 hgrow3 hat3 hown0 hb1 HB
          by_cases h5 : S = C.wd (ys.drop 4)
          · have h5' : ((S : Int) != V) = false := by have := H4.out; simp; omega
            rw [if_pos h5] at HD
            rw [HD.out, if_pos rfl] at hV hP
            clear h5
            go_quiet ((first
              | (go_at_call 17; exact Calls.quiet_of_same ((hsb.out _ _ (hB3.out.drewN _)).mono fun _ _ h => ⟨h.1, h.2.symm⟩))
              | (go_at_call 25; exact Calls.quiet_of (hnb.out _ _ (hR3.out.drewN _)))))
            go_wp2
            go_ret3
            rw [hP.out, hV.out, HD.out]
            refine ⟨_, ret3_eq ?_, hB3.out.drewN _, bt b3 (bd _ _), hF3.out⟩
            rw [HK.out]
            omega
          · have h5' : ((S : Int) != V) = true := by have := H4.out; simp; omega
            rw [if_neg h5] at HD
            rw [HD.out, if_neg (by decide)] at hV hP
            clear h5
            go_quiet ((first
              | (go_at_call 17; exact Calls.quiet_of_same ((hsb.out _ _ (hB3.out.drewN _)).mono fun _ _ h => ⟨h.1, h.2.symm⟩))
              | (go_at_call 25; exact Calls.quiet_of (hnb.out _ _ (hR3.out.drewN _)))))
            go_wp2
            go_ret3
            rw [hP.out, hV.out, HD.out]
            exact ⟨_, rfl, Bs.nil _, bt b3 (bd _ _), hnil _⟩

end Go.Proofs.Ytkbfkdgdommngaa
