/-
  For every list of numbers the law FracDense returns true: keys that are made between others, again and again, are in order and unlike, as long as there are any. No condition.
-/
import Derived.Test.YtobnnidlpbnbkaaFAlive
import Derived.Test.YtobnnidlpbnbkaaFSrt
import Derived.Test.YtobnnidlpbnbkaaFInts
import Derived.ProofKit
import Derived.OpenShut
import Derived.ShutString
import Derived.ChangeOld
import Derived.Below
namespace Go.Proofs.Ytobnnidlpbnbkaa
open Go.RowKit
set_option linter.unusedVariables false

theorem Ss.drop_far {w : World} {g f n c : Nat} {ss : List ByteArray} (h : Ss w (.slice (some ⟨g, f, none⟩) n c) ss) (l : Nat) (hl : l ≤ n) (hc : c ≠ l) : Ss w (.slice (some ⟨g, f + l, none⟩) (n - l) (c - l)) (ss.drop l) := by
  have := h.drop l hl
  rw [if_neg hc, Option.map_some, Addr.add_lit] at this
  exact this
theorem Ss.drop_all {w : World} {a : Option Addr} {n c : Nat} {ss : List ByteArray} (h : Ss w (.slice a n c) ss) (l : Nat) (hl : l = n) (hn : ss.length = n) : ∀ a' n' c', n' = 0 → c' ≤ maxLen → (a' = none → c' = 0) → Ss w (.slice a' n' c') (ss.drop l) := by
  intro a' n' c' h0 h1 h2
  subst hl h0
  rw [List.drop_eq_nil_of_le (by omega)]
  exact ⟨a', c', rfl, Nat.zero_le _, h1, h2, fun i hi => absurd hi (Nat.not_lt_zero _)⟩
theorem nt_order {ls : List ByteArray} (hS : Srt ls) {k : Nat} (h0 : 0 < k) (h : k < ls.length) : ∃ x : Int, decide (0 ≤ x) = false ∧ ∀ w : World, Calls Try.prog 12 #[.string (nt ls (k - 1)), .string (nt ls k)] w fun e w' => e = .returned (.int .i64 x) ∧ w' = w := by
  refine ⟨K.ord (tx (nt ls (k - 1))) (tx (nt ls k)), ?_, fun w => (order_any _ _ w).mono fun _ _ h => ⟨h.1, h.2.symm⟩⟩
  rw [K.ord_geq, hS.lt (show k - 1 < k by omega) h]
  rfl
theorem pick_place (z : Int) (k : Nat) : ∃ q p : Nat, bits .and .i64 z 1023 = (q : Int) ∧ ((q : Int)).tmod ((k : Int) + 1) = (p : Int) ∧ p ≤ k ∧ q < 1024 := by
  refine ⟨(z % 1024).toNat, (z % 1024).toNat % (k + 1), ?_, ?_, ?_, by omega⟩
  · rw [and1023]; omega
  · rw [Int.tmod_eq_emod_of_nonneg (by omega)]
    rw [Int.natCast_emod]
    rfl
  · have := Nat.mod_lt (z % 1024).toNat (show 0 < k + 1 by omega); omega

theorem dense_long (v : Value) (zs : List Int) (w : World) (h : Is w v zs) (hl : 300 < zs.length) :
    Calls Try.prog 5 #[v] w fun e w' => e = .returned (.bool true) ∧ Below w.heap.size w w' := by
  obtain ⟨a, c, rfl, hc, hm⟩ := h.form
  unfold maxLen at hm
  have hl' : (300 : Int) < (zs.length : Int) := by omega
  clear h
  go_enter Try.func5, Try.ntmps5
  go_wp2_with fail
  refine (alive_any _).mono ?_
  rintro e w1 ⟨rfl, b1⟩
  go_wp2
  go_ret
  exact ⟨rfl, b1⟩

set_option maxHeartbeats 16000000 in
set_option maxRecDepth 100000 in
theorem dense_short (v : Value) (zs : List Int) (w : World) (h : Is w v zs) (hl : zs.length ≤ 300) :
    Calls Try.prog 5 #[v] w fun e w' => e = .returned (.bool true) ∧ Below w.heap.size w w' := by
  obtain ⟨a0, c0, rfl, hc0, hm0⟩ := h.form
  unfold maxLen at hm0
  have HI := hid h
  clear h
  obtain ⟨N, hN⟩ : ∃ N, zs.length = N := ⟨_, rfl⟩
  rw [hN] at hc0 hl HI ⊢
  have HN := hid hN
  clear hN
  go_enter Try.func5, Try.ntmps5
  go_wp2_with fail
  refine (alive_any _).mono ?_
  rintro e w1 ⟨rfl, b1⟩
  have B1 := hid b1
  clear b1
  have hown0 : (w1.alloc (.cells #[] 9)).ownsRow w1.heap.size 9 1 (.slice (some ⟨w1.heap.size, 0, none⟩) 0 0) 0 (ts []) := World.ownsRow_made w1 #[] 0 (Nat.le_refl _) (Nat.zero_le _) rfl
  have HS0 := hid (Ss.of_own hown0)
  clear hown0
  go_wp2
  go_loopw [3, 4] (fun lv ii wr => ∃ (k : Nat) (ls : List ByteArray), k ≤ N ∧ ii = .int .i64 k ∧ ls.length = k ∧ Ss wr lv ls ∧ Srt ls ∧ Below w.heap.size w wr) (fun _ ii _ => N - (intOf ii).toNat)
  case atStart => exact ⟨0, [], Nat.zero_le _, rfl, rfl, HS0.out, Srt.nil, bt B1.out (ba _ _)⟩
  case round =>
    clear HS0 B1
    obtain ⟨k, ls, hk, rfl, hlen, hSs, hSr, hbel⟩ := hrel
    obtain ⟨a, c, rfl, hc⟩ := hSs.form
    rw [hlen] at hc hSs ⊢
    have HSs := hid hSs
    have HSr := hid hSr
    have HL := hid hlen
    have HB := hid hbel
    clear hSs hSr hbel hlen
    by_cases hkN : k < N
    · have hiz := (HI.out.below HB.out).inv (by rw [HN.out]; omega)
      rw [HN.out] at hiz
      obtain ⟨gz, oz, dz, ez, _, _, hcz⟩ := hiz
      simp only [Value.slice.injEq] at ez
      obtain ⟨rfl, -, rfl⟩ := ez
      have hz := hcz k hkN
      clear hcz
      generalize zs.getD k 0 = z at hz
      obtain ⟨q, p, hq, hp, hpk, hq1⟩ := pick_place z k
      have hkN' : (k : Int) < (N : Int) := by omega
      have hk1 : ((k : Int) + 1 == 0) = false := by simp; omega
      have HF := hid (fun W => between_any (lowOf ls p) (highOf ls p) W (by have := low_size HSr.out (p := p) (by rw [HL.out]; omega); omega) (by have := high_size HSr.out p; omega))
      have ls1 := low_size HSr.out (p := p) (by rw [HL.out]; omega)
      have ls2 := high_size HSr.out p
      have HP := hid (fun k' (hk' : K.key (tx (lowOf ls p)) (tx (highOf ls p)) = some k') => HSr.out.put (p := p) (by rw [HL.out]; omega) hk')
      have HQ := hid (fun (hk' : K.key (tx (lowOf ls p)) (tx (highOf ls p)) = none) => none_long HSr.out (p := p) (by rw [HL.out]; omega) hk')
      have hpc : (p : Int) ≤ (c : Int) := by omega
      generalize hK : K.key (tx (lowOf ls p)) (tx (highOf ls p)) = K0 at HF HP HQ
      clear hK
      by_cases h0 : 0 < p
      · by_cases h1 : p < k
        · have elow : lowOf ls p = nt ls (p - 1) := by unfold lowOf; rw [if_pos h0]
          have ehigh : highOf ls p = nt ls p := by unfold highOf; rw [HL.out, if_pos h1]
          rw [elow] at HF HQ ls1
          rw [ehigh] at HF HQ ls2
          clear elow ehigh
          have hil := HSs.out.inv (by rw [HL.out]; omega)
          rw [HL.out] at hil
          obtain ⟨gl, ol, dl, el, _, hcm, hcl⟩ := hil
          simp only [Value.slice.injEq] at el
          obtain ⟨rfl, -, rfl⟩ := el
          have HCM := hid hcm
          clear hcm
          have hy0 := hcl (p - 1) (by omega)
          have hy : wr.cell? ⟨gl, ol + (p - 1), none⟩ = some (.string (nt ls (p - 1))) := hy0
          have hg0 : (0 : Int) < (p : Int) := by omega
          have hg1 : (p : Int) - 1 < (k : Int) := by omega
          have hg2 : (0 : Int) ≤ (p : Int) - 1 := by omega
          have hg3 : ((p : Int) - 1).toNat = p - 1 := by omega
          clear hy0
          have hx0 := hcl p h1
          have hx : wr.cell? ⟨gl, ol + p, none⟩ = some (.string (nt ls p)) := hx0
          have hg4 : (p : Int) < (k : Int) := by omega
          clear hx0
          clear hcl
          generalize nt ls (p - 1) = s0 at hy HF HQ ls1
          generalize nt ls p = t0 at hx HF HQ ls2
          cases K0 with
          | none =>
            have hQ := HQ.out rfl
            clear HQ HP
            have HF' : Hid (∀ W, Calls Try.prog 8 #[.string s0, .string t0] W fun e w' => e = .returned (.tuple #[.string ⟨#[]⟩, .int .i64 15]) ∧ Below W.heap.size W w') := HF
            clear HF
            by_cases hs31 : 31 ≤ s0.size
            · clear hQ
              go_wp2_with fail
              refine (HF'.out _).mono ?_
              rintro e w2 ⟨rfl, b2⟩
              go_wp2
              go_ret
              first | exact ⟨rfl, HB.out.trans (b2.mono HB.out.size)⟩ | exact ⟨retb (by simp; omega), HB.out.trans (b2.mono HB.out.size)⟩
            · have ht31 : 31 ≤ t0.size := hQ.resolve_left hs31
              clear hQ
              go_wp2_with fail
              refine (HF'.out _).mono ?_
              rintro e w2 ⟨rfl, b2⟩
              go_wp2
              go_ret
              first | exact ⟨rfl, HB.out.trans (b2.mono HB.out.size)⟩ | exact ⟨retb (by simp; omega), HB.out.trans (b2.mono HB.out.size)⟩
          | some k0 =>
            have hP := hid (HP.out k0 rfl)
            clear HQ HP
            obtain ⟨s1, hs1⟩ : ∃ s1, M.str k0 = s1 := ⟨_, rfl⟩
            rw [hs1] at hP
            have HF' : Hid (∀ W, Calls Try.prog 8 #[.string s0, .string t0] W fun e w' => e = .returned (.tuple #[.string s1, .int .i64 0]) ∧ Below W.heap.size W w') := by
              rw [← hs1]
              exact HF.out
            clear HF hs1
            have htl : (ls.take p).length = p := by rw [List.length_take, HL.out]; omega
            have hdl : (ls.drop p).length = k - p := by rw [List.length_drop, HL.out]
            have HTL := hid htl
            have HDL := hid hdl
            clear htl hdl
            go_wp2_with fail
            refine (HF'.out _).mono ?_
            rintro e w2 ⟨rfl, b2⟩
            have B2 := hid (HB.out.trans (b2.mono HB.out.size))
            have S2 := hid (HSs.out.below b2)
            have O2 : Hid ((w2.alloc (.cells #[] 9)).ownsRow w2.heap.size 9 1 (.slice (some ⟨w2.heap.size, 0, none⟩) 0 0) 0 (ts [])) := World.ownsRow_made w2 #[] 0 (Nat.le_refl _) (Nat.zero_le _) rfl
            have T2 := hid ((S2.out.below (ba w2 (.cells #[] 9))).take p hpk)
            clear b2
            go_wp2_with (first
              | (at_builtin; refine wpList_append_ss rfl (.tmp 65) (.tmp 68) rfl w2.heap.size _ _ [] rfl O2.out _ (ls.take p) rfl T2.out (by rw [HTL.out]; omega) (by simp) ?_; intro v3 w3 hown3 hgrow3 hat3; rw [HTL.out, List.nil_append, Nat.zero_add] at hown3; have B3 := hid (Below.grown (ba w2 (.cells #[] 9)) hgrow3 (by simp) (fun j hj => (O2.out.lt j hj).1)); have O3 := hid hown3; clear hown3 hgrow3 hat3; have O3' := hid (O3.out.alloc (.cells #[.string s1] 9)); have L3 := hid (Ss.lit w3 s1); have Z3 : w2.heap.size ≤ (w3.alloc (.cells #[.string s1] 9)).heap.size := (by have := B3.out.size; simp; omega))
              | (at_builtin; refine wpList_append_ss rfl (.tmp 70) (.tmp 72) rfl w2.heap.size _ _ (ls.take p) rfl O3'.out _ [s1] rfl L3.out (by simp; omega) Z3 ?_; intro v4 w4 hown4 hgrow4 hat4; have B4 := hid (Below.grown (B3.out.alloc B3.out.size _) hgrow4 Z3 (fun j hj => (O3.out.lt j hj).1)); have O4 := hid hown4; clear hown4 hgrow4 hat4; have D4 := hid (Ss.drop_far (S2.out.below B4.out) p hpk (by omega)))
              | (at_builtin; refine wpList_append_ss rfl (.tmp 74) (.tmp 77) rfl w2.heap.size _ _ (ls.take p ++ [s1]) rfl O4.out _ (ls.drop p) rfl D4.out (by rw [HDL.out]; simp; omega) B4.out.size ?_; intro v5 w5 hown5 hgrow5 hat5; have B5 := hid (Below.grown B4.out hgrow5 B4.out.size (fun j hj => (O4.out.lt j hj).1)); have S5 := hid (Ss.of_own hown5); clear hown5 hgrow5 hat5))
            go_roundw
            case rel => exact ⟨k + 1, ls.take p ++ [s1] ++ ls.drop p, by omega, by go_num, (by simp only [List.length_append, HTL.out, HDL.out, List.length_singleton]; omega), S5.out, hP.out, bt B2.out B5.out⟩
            case measure => simp [intOf]; omega
        · have elow : lowOf ls p = nt ls (p - 1) := by unfold lowOf; rw [if_pos h0]
          have ehigh : highOf ls p = ⟨#[]⟩ := by unfold highOf; rw [HL.out, if_neg h1]
          rw [elow] at HF HQ ls1
          rw [ehigh] at HF HQ ls2
          clear elow ehigh
          have hil := HSs.out.inv (by rw [HL.out]; omega)
          rw [HL.out] at hil
          obtain ⟨gl, ol, dl, el, _, hcm, hcl⟩ := hil
          simp only [Value.slice.injEq] at el
          obtain ⟨rfl, -, rfl⟩ := el
          have HCM := hid hcm
          clear hcm
          have hy0 := hcl (p - 1) (by omega)
          have hy : wr.cell? ⟨gl, ol + (p - 1), none⟩ = some (.string (nt ls (p - 1))) := hy0
          have hg0 : (0 : Int) < (p : Int) := by omega
          have hg1 : (p : Int) - 1 < (k : Int) := by omega
          have hg2 : (0 : Int) ≤ (p : Int) - 1 := by omega
          have hg3 : ((p : Int) - 1).toNat = p - 1 := by omega
          clear hy0
          clear hcl
          have hg4 : decide ((p : Int) < (k : Int)) = false := by simp; omega
          generalize nt ls (p - 1) = s0 at hy HF HQ ls1
          cases K0 with
          | none =>
            have hQ := HQ.out rfl
            clear HQ HP
            have HF' : Hid (∀ W, Calls Try.prog 8 #[.string s0, .string ⟨#[]⟩] W fun e w' => e = .returned (.tuple #[.string ⟨#[]⟩, .int .i64 15]) ∧ Below W.heap.size W w') := HF
            clear HF
            have hs31 : 31 ≤ s0.size := hQ.resolve_right (by decide)
            clear hQ
            go_wp2_with fail
            refine (HF'.out _).mono ?_
            rintro e w2 ⟨rfl, b2⟩
            go_wp2
            go_ret
            first | exact ⟨rfl, HB.out.trans (b2.mono HB.out.size)⟩ | exact ⟨retb (by simp; omega), HB.out.trans (b2.mono HB.out.size)⟩
          | some k0 =>
            have hP := hid (HP.out k0 rfl)
            clear HQ HP
            obtain ⟨s1, hs1⟩ : ∃ s1, M.str k0 = s1 := ⟨_, rfl⟩
            rw [hs1] at hP
            have HF' : Hid (∀ W, Calls Try.prog 8 #[.string s0, .string ⟨#[]⟩] W fun e w' => e = .returned (.tuple #[.string s1, .int .i64 0]) ∧ Below W.heap.size W w') := by
              rw [← hs1]
              exact HF.out
            clear HF hs1
            have htl : (ls.take p).length = p := by rw [List.length_take, HL.out]; omega
            have hdl : (ls.drop p).length = k - p := by rw [List.length_drop, HL.out]
            have HTL := hid htl
            have HDL := hid hdl
            clear htl hdl
            go_wp2_with fail
            refine (HF'.out _).mono ?_
            rintro e w2 ⟨rfl, b2⟩
            have B2 := hid (HB.out.trans (b2.mono HB.out.size))
            have S2 := hid (HSs.out.below b2)
            have O2 : Hid ((w2.alloc (.cells #[] 9)).ownsRow w2.heap.size 9 1 (.slice (some ⟨w2.heap.size, 0, none⟩) 0 0) 0 (ts [])) := World.ownsRow_made w2 #[] 0 (Nat.le_refl _) (Nat.zero_le _) rfl
            have T2 := hid ((S2.out.below (ba w2 (.cells #[] 9))).take p hpk)
            clear b2
            by_cases hcp : p = c
            · subst hcp
              go_wp2_with (first
                | (at_builtin; refine wpList_append_ss rfl (.tmp 65) (.tmp 68) rfl w2.heap.size _ _ [] rfl O2.out _ (ls.take p) rfl T2.out (by rw [HTL.out]; omega) (by simp) ?_; intro v3 w3 hown3 hgrow3 hat3; rw [HTL.out, List.nil_append, Nat.zero_add] at hown3; have B3 := hid (Below.grown (ba w2 (.cells #[] 9)) hgrow3 (by simp) (fun j hj => (O2.out.lt j hj).1)); have O3 := hid hown3; clear hown3 hgrow3 hat3; have O3' := hid (O3.out.alloc (.cells #[.string s1] 9)); have L3 := hid (Ss.lit w3 s1); have Z3 : w2.heap.size ≤ (w3.alloc (.cells #[.string s1] 9)).heap.size := (by have := B3.out.size; simp; omega))
                | (at_builtin; refine wpList_append_ss rfl (.tmp 70) (.tmp 72) rfl w2.heap.size _ _ (ls.take p) rfl O3'.out _ [s1] rfl L3.out (by simp; omega) Z3 ?_; intro v4 w4 hown4 hgrow4 hat4; have B4 := hid (Below.grown (B3.out.alloc B3.out.size _) hgrow4 Z3 (fun j hj => (O3.out.lt j hj).1)); have O4 := hid hown4; clear hown4 hgrow4 hat4; have D4 := hid (Ss.drop_all (S2.out.below B4.out) p (by omega) HL.out))
                | (at_builtin; refine wpList_append_ss rfl (.tmp 74) (.tmp 77) rfl w2.heap.size _ _ (ls.take p ++ [s1]) rfl O4.out _ (ls.drop p) rfl (D4.out _ _ _ (by omega) (by first | exact Nat.zero_le _ | exact Nat.le_trans (Nat.sub_le _ _) HCM.out) (fun e => by cases e)) (by rw [HDL.out]; simp; omega) B4.out.size ?_; intro v5 w5 hown5 hgrow5 hat5; have B5 := hid (Below.grown B4.out hgrow5 B4.out.size (fun j hj => (O4.out.lt j hj).1)); have S5 := hid (Ss.of_own hown5); clear hown5 hgrow5 hat5))
              go_roundw
              case rel => exact ⟨k + 1, ls.take p ++ [s1] ++ ls.drop p, by omega, by go_num, (by simp only [List.length_append, HTL.out, HDL.out, List.length_singleton]; omega), S5.out, hP.out, bt B2.out B5.out⟩
              case measure => simp [intOf]; omega
            · have hcp' : ¬ c = p := fun e => hcp e.symm
              go_wp2_with (first
                | (at_builtin; refine wpList_append_ss rfl (.tmp 65) (.tmp 68) rfl w2.heap.size _ _ [] rfl O2.out _ (ls.take p) rfl T2.out (by rw [HTL.out]; omega) (by simp) ?_; intro v3 w3 hown3 hgrow3 hat3; rw [HTL.out, List.nil_append, Nat.zero_add] at hown3; have B3 := hid (Below.grown (ba w2 (.cells #[] 9)) hgrow3 (by simp) (fun j hj => (O2.out.lt j hj).1)); have O3 := hid hown3; clear hown3 hgrow3 hat3; have O3' := hid (O3.out.alloc (.cells #[.string s1] 9)); have L3 := hid (Ss.lit w3 s1); have Z3 : w2.heap.size ≤ (w3.alloc (.cells #[.string s1] 9)).heap.size := (by have := B3.out.size; simp; omega))
                | (at_builtin; refine wpList_append_ss rfl (.tmp 70) (.tmp 72) rfl w2.heap.size _ _ (ls.take p) rfl O3'.out _ [s1] rfl L3.out (by simp; omega) Z3 ?_; intro v4 w4 hown4 hgrow4 hat4; have B4 := hid (Below.grown (B3.out.alloc B3.out.size _) hgrow4 Z3 (fun j hj => (O3.out.lt j hj).1)); have O4 := hid hown4; clear hown4 hgrow4 hat4; have D4 := hid (Ss.drop_all (S2.out.below B4.out) p (by omega) HL.out))
                | (at_builtin; refine wpList_append_ss rfl (.tmp 74) (.tmp 77) rfl w2.heap.size _ _ (ls.take p ++ [s1]) rfl O4.out _ (ls.drop p) rfl (D4.out _ _ _ (by omega) (by first | exact Nat.zero_le _ | exact Nat.le_trans (Nat.sub_le _ _) HCM.out) (fun e => by cases e)) (by rw [HDL.out]; simp; omega) B4.out.size ?_; intro v5 w5 hown5 hgrow5 hat5; have B5 := hid (Below.grown B4.out hgrow5 B4.out.size (fun j hj => (O4.out.lt j hj).1)); have S5 := hid (Ss.of_own hown5); clear hown5 hgrow5 hat5))
              go_roundw
              case rel => exact ⟨k + 1, ls.take p ++ [s1] ++ ls.drop p, by omega, by go_num, (by simp only [List.length_append, HTL.out, HDL.out, List.length_singleton]; omega), S5.out, hP.out, bt B2.out B5.out⟩
              case measure => simp [intOf]; omega
      · by_cases h1 : p < k
        · have elow : lowOf ls p = ⟨#[]⟩ := by unfold lowOf; rw [if_neg h0]
          have ehigh : highOf ls p = nt ls p := by unfold highOf; rw [HL.out, if_pos h1]
          rw [elow] at HF HQ ls1
          rw [ehigh] at HF HQ ls2
          clear elow ehigh
          have hil := HSs.out.inv (by rw [HL.out]; omega)
          rw [HL.out] at hil
          obtain ⟨gl, ol, dl, el, _, hcm, hcl⟩ := hil
          simp only [Value.slice.injEq] at el
          obtain ⟨rfl, -, rfl⟩ := el
          have HCM := hid hcm
          clear hcm
          have hx0 := hcl p h1
          have hx : wr.cell? ⟨gl, ol + p, none⟩ = some (.string (nt ls p)) := hx0
          have hg4 : (p : Int) < (k : Int) := by omega
          clear hx0
          clear hcl
          have hg0 : decide ((0 : Int) < (p : Int)) = false := by simp; omega
          generalize nt ls p = t0 at hx HF HQ ls2
          cases K0 with
          | none =>
            have hQ := HQ.out rfl
            clear HQ HP
            have HF' : Hid (∀ W, Calls Try.prog 8 #[.string ⟨#[]⟩, .string t0] W fun e w' => e = .returned (.tuple #[.string ⟨#[]⟩, .int .i64 15]) ∧ Below W.heap.size W w') := HF
            clear HF
            have ht31 : 31 ≤ t0.size := hQ.resolve_left (by decide)
            clear hQ
            go_wp2_with fail
            refine (HF'.out _).mono ?_
            rintro e w2 ⟨rfl, b2⟩
            go_wp2
            go_ret
            first | exact ⟨rfl, HB.out.trans (b2.mono HB.out.size)⟩ | exact ⟨retb (by simp; omega), HB.out.trans (b2.mono HB.out.size)⟩
          | some k0 =>
            have hP := hid (HP.out k0 rfl)
            clear HQ HP
            obtain ⟨s1, hs1⟩ : ∃ s1, M.str k0 = s1 := ⟨_, rfl⟩
            rw [hs1] at hP
            have HF' : Hid (∀ W, Calls Try.prog 8 #[.string ⟨#[]⟩, .string t0] W fun e w' => e = .returned (.tuple #[.string s1, .int .i64 0]) ∧ Below W.heap.size W w') := by
              rw [← hs1]
              exact HF.out
            clear HF hs1
            have htl : (ls.take p).length = p := by rw [List.length_take, HL.out]; omega
            have hdl : (ls.drop p).length = k - p := by rw [List.length_drop, HL.out]
            have HTL := hid htl
            have HDL := hid hdl
            clear htl hdl
            go_wp2_with fail
            refine (HF'.out _).mono ?_
            rintro e w2 ⟨rfl, b2⟩
            have B2 := hid (HB.out.trans (b2.mono HB.out.size))
            have S2 := hid (HSs.out.below b2)
            have O2 : Hid ((w2.alloc (.cells #[] 9)).ownsRow w2.heap.size 9 1 (.slice (some ⟨w2.heap.size, 0, none⟩) 0 0) 0 (ts [])) := World.ownsRow_made w2 #[] 0 (Nat.le_refl _) (Nat.zero_le _) rfl
            have T2 := hid ((S2.out.below (ba w2 (.cells #[] 9))).take p hpk)
            clear b2
            go_wp2_with (first
              | (at_builtin; refine wpList_append_ss rfl (.tmp 65) (.tmp 68) rfl w2.heap.size _ _ [] rfl O2.out _ (ls.take p) rfl T2.out (by rw [HTL.out]; omega) (by simp) ?_; intro v3 w3 hown3 hgrow3 hat3; rw [HTL.out, List.nil_append, Nat.zero_add] at hown3; have B3 := hid (Below.grown (ba w2 (.cells #[] 9)) hgrow3 (by simp) (fun j hj => (O2.out.lt j hj).1)); have O3 := hid hown3; clear hown3 hgrow3 hat3; have O3' := hid (O3.out.alloc (.cells #[.string s1] 9)); have L3 := hid (Ss.lit w3 s1); have Z3 : w2.heap.size ≤ (w3.alloc (.cells #[.string s1] 9)).heap.size := (by have := B3.out.size; simp; omega))
              | (at_builtin; refine wpList_append_ss rfl (.tmp 70) (.tmp 72) rfl w2.heap.size _ _ (ls.take p) rfl O3'.out _ [s1] rfl L3.out (by simp; omega) Z3 ?_; intro v4 w4 hown4 hgrow4 hat4; have B4 := hid (Below.grown (B3.out.alloc B3.out.size _) hgrow4 Z3 (fun j hj => (O3.out.lt j hj).1)); have O4 := hid hown4; clear hown4 hgrow4 hat4; have D4 := hid (Ss.drop_far (S2.out.below B4.out) p hpk (by omega)))
              | (at_builtin; refine wpList_append_ss rfl (.tmp 74) (.tmp 77) rfl w2.heap.size _ _ (ls.take p ++ [s1]) rfl O4.out _ (ls.drop p) rfl D4.out (by rw [HDL.out]; simp; omega) B4.out.size ?_; intro v5 w5 hown5 hgrow5 hat5; have B5 := hid (Below.grown B4.out hgrow5 B4.out.size (fun j hj => (O4.out.lt j hj).1)); have S5 := hid (Ss.of_own hown5); clear hown5 hgrow5 hat5))
            go_roundw
            case rel => exact ⟨k + 1, ls.take p ++ [s1] ++ ls.drop p, by omega, by go_num, (by simp only [List.length_append, HTL.out, HDL.out, List.length_singleton]; omega), S5.out, hP.out, bt B2.out B5.out⟩
            case measure => simp [intOf]; omega
        · have elow : lowOf ls p = ⟨#[]⟩ := by unfold lowOf; rw [if_neg h0]
          have ehigh : highOf ls p = ⟨#[]⟩ := by unfold highOf; rw [HL.out, if_neg h1]
          rw [elow] at HF HQ ls1
          rw [ehigh] at HF HQ ls2
          clear elow ehigh
          have hg0 : decide ((0 : Int) < (p : Int)) = false := by simp; omega
          have hg4 : decide ((p : Int) < (k : Int)) = false := by simp; omega
          cases K0 with
          | none =>
            have hQ := HQ.out rfl
            clear HQ HP
            have HF' : Hid (∀ W, Calls Try.prog 8 #[.string ⟨#[]⟩, .string ⟨#[]⟩] W fun e w' => e = .returned (.tuple #[.string ⟨#[]⟩, .int .i64 15]) ∧ Below W.heap.size W w') := HF
            clear HF
            exact absurd hQ (by decide)
          | some k0 =>
            have hP := hid (HP.out k0 rfl)
            clear HQ HP
            obtain ⟨s1, hs1⟩ : ∃ s1, M.str k0 = s1 := ⟨_, rfl⟩
            rw [hs1] at hP
            have HF' : Hid (∀ W, Calls Try.prog 8 #[.string ⟨#[]⟩, .string ⟨#[]⟩] W fun e w' => e = .returned (.tuple #[.string s1, .int .i64 0]) ∧ Below W.heap.size W w') := by
              rw [← hs1]
              exact HF.out
            clear HF hs1
            have htl : (ls.take p).length = p := by rw [List.length_take, HL.out]; omega
            have hdl : (ls.drop p).length = k - p := by rw [List.length_drop, HL.out]
            have HTL := hid htl
            have HDL := hid hdl
            clear htl hdl
            go_wp2_with fail
            refine (HF'.out _).mono ?_
            rintro e w2 ⟨rfl, b2⟩
            have B2 := hid (HB.out.trans (b2.mono HB.out.size))
            have S2 := hid (HSs.out.below b2)
            have O2 : Hid ((w2.alloc (.cells #[] 9)).ownsRow w2.heap.size 9 1 (.slice (some ⟨w2.heap.size, 0, none⟩) 0 0) 0 (ts [])) := World.ownsRow_made w2 #[] 0 (Nat.le_refl _) (Nat.zero_le _) rfl
            have T2 := hid ((S2.out.below (ba w2 (.cells #[] 9))).take p hpk)
            clear b2
            go_wp2_with (first
              | (at_builtin; refine wpList_append_ss rfl (.tmp 65) (.tmp 68) rfl w2.heap.size _ _ [] rfl O2.out _ (ls.take p) rfl T2.out (by rw [HTL.out]; omega) (by simp) ?_; intro v3 w3 hown3 hgrow3 hat3; rw [HTL.out, List.nil_append, Nat.zero_add] at hown3; have B3 := hid (Below.grown (ba w2 (.cells #[] 9)) hgrow3 (by simp) (fun j hj => (O2.out.lt j hj).1)); have O3 := hid hown3; clear hown3 hgrow3 hat3; have O3' := hid (O3.out.alloc (.cells #[.string s1] 9)); have L3 := hid (Ss.lit w3 s1); have Z3 : w2.heap.size ≤ (w3.alloc (.cells #[.string s1] 9)).heap.size := (by have := B3.out.size; simp; omega))
              | (at_builtin; refine wpList_append_ss rfl (.tmp 70) (.tmp 72) rfl w2.heap.size _ _ (ls.take p) rfl O3'.out _ [s1] rfl L3.out (by simp; omega) Z3 ?_; intro v4 w4 hown4 hgrow4 hat4; have B4 := hid (Below.grown (B3.out.alloc B3.out.size _) hgrow4 Z3 (fun j hj => (O3.out.lt j hj).1)); have O4 := hid hown4; clear hown4 hgrow4 hat4; have D4 := hid ((S2.out.below B4.out).drop p hpk))
              | (at_builtin; refine wpList_append_ss rfl (.tmp 74) (.tmp 77) rfl w2.heap.size _ _ (ls.take p ++ [s1]) rfl O4.out _ (ls.drop p) rfl D4.out (by rw [HDL.out]; simp; omega) B4.out.size ?_; intro v5 w5 hown5 hgrow5 hat5; have B5 := hid (Below.grown B4.out hgrow5 B4.out.size (fun j hj => (O4.out.lt j hj).1)); have S5 := hid (Ss.of_own hown5); clear hown5 hgrow5 hat5))
            go_roundw
            case rel => exact ⟨k + 1, ls.take p ++ [s1] ++ ls.drop p, by omega, by go_num, (by simp only [List.length_append, HTL.out, HDL.out, List.length_singleton]; omega), S5.out, hP.out, bt B2.out B5.out⟩
            case measure => simp [intOf]; omega
    · obtain rfl : k = N := by omega
      clear HI HN
      have hkN' : decide ((k : Int) < (k : Int)) = false := by simp
      go_wp2
      go_loopw [11] (fun ii wr => ∃ j : Nat, 1 ≤ j ∧ j ≤ k + 1 ∧ ii = .int .i64 j ∧ Ss wr (.slice a k c) ls ∧ Below w.heap.size w wr) (fun ii _ => k + 1 - (intOf ii).toNat)
      case atStart => exact ⟨1, by omega, by omega, rfl, HSs.out, HB.out⟩
      case round =>
        clear HSs HB
        obtain ⟨j, hj1, hjk, rfl, hSs, hbel⟩ := hrel
        have HSs := hid hSs
        have HB := hid hbel
        clear hSs hbel
        by_cases hjn : j < k
        · have hil := HSs.out.inv (by rw [HL.out]; omega)
          rw [HL.out] at hil
          obtain ⟨gl, ol, dl, el, _, _, hcl⟩ := hil
          simp only [Value.slice.injEq] at el
          obtain ⟨rfl, -, rfl⟩ := el
          have hx : wr.cell? ⟨gl, ol + j, none⟩ = some (.string (nt ls j)) := hcl j hjn
          have hy : wr.cell? ⟨gl, ol + (j - 1), none⟩ = some (.string (nt ls (j - 1))) := hcl (j - 1) (by omega)
          obtain ⟨x, hxx, hord⟩ := nt_order HSr.out (k := j) (by omega) (by rw [HL.out]; exact hjn)
          have HO := hid hord
          have hg0 : (j : Int) < (k : Int) := by omega
          have hg1 : (j : Int) - 1 < (k : Int) := by omega
          have hg2 : (0 : Int) ≤ (j : Int) - 1 := by omega
          have hg3 : ((j : Int) - 1).toNat = j - 1 := by omega
          clear hord hcl
          go_wp2
          go_quiet ((go_at_call 12; exact Calls.quiet_of_same (HO.out _)))
          go_wp2
          go_roundw
          case rel => exact ⟨j + 1, by omega, by omega, by go_num, HSs.out.drewN _, below_drewN HB.out _⟩
          case measure => simp [intOf]; omega
        · have hg0 : decide ((j : Int) < (k : Int)) = false := by simp; omega
          go_wp2
          go_ret
          exact ⟨rfl, HB.out⟩

theorem dense_any (v : Value) (zs : List Int) (w : World) (h : Is w v zs) :
    Calls Try.prog 5 #[v] w fun e w' => e = .returned (.bool true) ∧ Below w.heap.size w w' := by
  by_cases hl : 300 < zs.length
  · exact dense_long v zs w h hl
  · exact dense_short v zs w h (by omega)

namespace fracDense
open Go.ChangeShapes Go.WideShapes Go.ChangeAt
open Go.ChangeMaps (open_string shut_string)

theorem own : ownKnob Try.prog.godebug = none := by kernel_rfl
theorem laidOut : laidOutB Try.prog = true := by kernel_rfl

set_option maxRecDepth 100000 in
theorem lifted (os : Os) (started : os.Started) (H : Type) (enc : TypeId × Value → H) :
    ReturnsInHanded {} Try.checked os 5 .any (Rows.fracDenseSpec.pre6 enc Try.prog Try.f5 Rows.fracDenseRow.domain false) (Rows.fracDenseSpec.post enc Try.prog Try.f5 false true false false) := by
  refine returnsInHanded_of_change (C := Try.checked) own started (by kernel_rfl) Try.func5
    (ChangeSpec.witness6 (enc := enc) (C := Try.checked) false ⟨#[], #[.slice none 0 0], []⟩ 8 (by kernel_rfl) (by kernel_rfl) (by kernel_rfl) (by kernel_rfl)) ?_
  intro W base args ds gs before hval0 hW hcnd _
  have hval : ∀ (j : Nat) t v, Try.f5.params[j]? = some t → args[j]? = some v → Value.okWide Try.prog W .any base t v := hval0
  have hW' := hW
  obtain ⟨p, q, hA0, hV, rfl, hfz, hnd⟩ := hW
  have hA : DataW.TrodAll enc Try.prog W 0 (fun _ => true) true Try.f5.params.toList args.toList ds p := hA0
  rw [Try.params5] at hA hval
  obtain ⟨v0, vs0, d0, ds0, p0, q0, hargs, rfl, rfl, h0, r0⟩ := trodAll_cons hA
  obtain ⟨rfl, rfl, rfl⟩ := trodAll_nil r0
  obtain rfl : args = #[v0] := by cases args; simp_all
  obtain ⟨rfl, rfl⟩ := trodVars_none hV
  obtain ⟨a0, len0, cap0, rfl⟩ := okWide_slice Try.underlying32 (hval 0 32 v0 rfl rfl)
  have k0 := h0
  have lt0 : ∀ x ∈ p0, x.block < W.heap.size := by obtain ⟨m, hm⟩ := k0; exact DataW.trod_lt m _ _ _ hm
  obtain ⟨z0, w0⟩ : ∃ zs, Is W (.slice a0 len0 cap0) zs := by
    obtain ⟨fuel, hf⟩ := h0
    rcases open_ints Try.underlying32 Try.underlying3 (by kernel_rfl) hf with ⟨hcs, _⟩ | ⟨x, l, c, zs, hcs, _, hl, hm, hz, _, hcell, hwz⟩
    · simp [Value.cells] at hcs
      obtain ⟨rfl, rfl, rfl⟩ := hcs
      exact ⟨[], Is.nil W⟩
    · simp [Value.cells] at hcs
      obtain ⟨rfl, rfl, rfl⟩ := hcs
      exact ⟨zs.take len0, Is.of_row hl hm (by simpa using hz) hcell⟩
  clear hA0 hval0
  refine (dense_any _ z0 W w0).mono fun e W' ⟨he, bel⟩ => ?_
  subst he
  exact ⟨_, rfl, _, _, _, [], _, [], hW', trodAll_mk1 (shut_bool Try.underlying4 _), (trodAll_cons_mk (Below.trod laidOut (by kernel_rfl) (of_decide_eq_true (by kernel_rfl)) k0 bel lt0) trodAll_mk0), rfl, bel.frame _, fun h => by cases h⟩

theorem over : Rows.fracDenseRow.holds Try.pinned (OpenSpec.ofChange Rows.fracDenseSpec) :=
  OpenClaim.holds_of_wide 5 Try.f5 rfl rfl rfl rfl rfl rfl rfl ⟨rfl, rfl, rfl, rfl, rfl⟩ rfl rfl rfl rfl rfl (by kernel_rfl) Try.func5 (by kernel_rfl)
    (of_decide_eq_true (by kernel_rfl)) (by unfold Func.isWrapper; first | (rw [if_pos (by decide +kernel)]; kernel_rfl) | (rw [if_neg (by decide +kernel)]; exact ⟨rfl, rfl⟩))
    (fun os started H enc _ => lifted os started H enc)
end fracDense

/-- THE STATEMENT. -/
theorem fracDense_holds : Rows.FracDenseSaid := fracDense.over


end Go.Proofs.Ytobnnidlpbnbkaa
