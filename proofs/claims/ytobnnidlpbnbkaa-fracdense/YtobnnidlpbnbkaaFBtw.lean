/-
  What Between answers is proved here, for all texts of at most 2^40 bytes: the key that 'K.key' tells, or none.
-/
import Derived.Test.YtobnnidlpbnbkaaFEnds
import Derived.Test.YtobnnidlpbnbkaaFByte
import Derived.Test.YtobnnidlpbnbkaaConv
import Derived.Test.YtobnnidlpbnbkaaAppend
namespace Go.Proofs.Ytobnnidlpbnbkaa
open Go.RowKit
set_option linter.unusedVariables false

/-- What Between returns. -/
def kv : Option (List Int) → Value
  | some k => .tuple #[.string (M.str k), .int .i64 0]
  | none => .tuple #[.string ⟨#[]⟩, .int .i64 15]

theorem between_no (s t : ByteArray) (w : World) (hs : s.size ≤ 1099511627776) (ht : t.size ≤ 1099511627776) (h : K.fine (tx s) (tx t) = false) :
    Calls Try.prog 8 #[.string s, .string t] w fun e w' => e = .returned (kv none) ∧ Below w.heap.size w w' := by
  have HE := hid (fun W => ends_any s t W hs ht)
  rw [h] at HE
  clear h
  go_enter Try.func8, Try.ntmps8
  go_wp2_with fail
  refine (HE.out _).mono ?_
  rintro e w' ⟨rfl, rfl⟩
  go_wp2
  go_ret2
  exact ⟨rfl, Below.refl _ _⟩

set_option maxHeartbeats 2000000 in
theorem between_yes (s t : ByteArray) (w : World) (hs : s.size ≤ 1099511627776) (ht : t.size ≤ 1099511627776) (h : K.fine (tx s) (tx t) = true) :
    Calls Try.prog 8 #[.string s, .string t] w fun e w' => e = .returned (kv (K.btw 32 (tx s) (tx t))) ∧ Below w.heap.size w w' := by
  have HE := hid (fun W => ends_any s t W hs ht)
  rw [h] at HE
  clear h
  obtain ⟨R, hR⟩ : ∃ R, K.btw 32 (tx s) (tx t) = R := ⟨_, rfl⟩
  have HA := hid (K.at_start (tx s) (tx t))
  rw [hR] at HA ⊢
  clear hR
  have HB := hid (tx_byt s)
  obtain ⟨i0, hi, hz0, hz1, hz2⟩ := info_parts info_u8
  have hmk : i0.bytes * 32 ≤ 281474976710656 := by rw [hz2]; omega
  have hkm : 32 ≤ maxLen := by unfold maxLen; omega
  go_enter Try.func8, Try.ntmps8
  go_wp2_with fail
  refine (HE.out _).mono ?_
  rintro e w' ⟨rfl, rfl⟩
  go_wp2_with (at_make; refine wpList_make_own _ rfl _ _ 35 rfl w.heap.size 5 i0 (.int .u8 0) 1 Try.underlying35 hi hz0 hz1 .i64 .i64 _ 32 rfl rfl rfl hmk hkm (Nat.le_refl _) ?_; intro w1 hown0 hgrow0)
  have hbel : Below w.heap.size w w1 := (Below.refl _ w).grown hgrow0 (Nat.le_refl _) (by intro k hk; cases hk)
  clear hgrow0
  go_loopw [1, 6, 15] (fun hv v i wr => ∃ (k : Nat) (u : ByteArray) (mk : List Int), k ≤ 32 ∧ i = .int .i64 k ∧ hv = .string u ∧ u.size ≤ 1099511627776 ∧ wr.ownsRow w.heap.size 5 1 v k (cs mk) ∧ K.Byt mk ∧ K.At R (tx s) (tx u) mk k ∧ Below w.heap.size w wr) (fun _ _ i _ => 32 - (intOf i).toNat)
  case atStart => exact ⟨0, t, [], by omega, rfl, rfl, ht, hown0, K.Byt.nil, HA.out, hbel⟩
  case round =>
    clear hown0 hbel HA HE
    obtain ⟨k, u, mk, hk, rfl, rfl, hu, hown, hbm, hat, hbel⟩ := hrel
    by_cases hk32 : k < 32
    · obtain ⟨x, hx⟩ : ∃ x, ((tx s).drop k).headD 0 = x := ⟨_, rfl⟩
      obtain ⟨y, hy⟩ : ∃ y, ((tx u).drop k).headD 256 = y := ⟨_, rfl⟩
      have hxb : 0 ≤ x ∧ x < 256 := by
        rw [← hx]
        exact K.Byt.head (k := (tx s).drop k) (fun z hz => HB.out z (List.mem_of_mem_drop hz))
      have hyb : 0 ≤ y ∧ y ≤ 256 := by
        rw [← hy]
        exact K.Byt.high (k := (tx u).drop k) (fun z hz => tx_byt u z (List.mem_of_mem_drop hz))
      have HX := hid (fun W => byte_any s k 0 W hs (by omega))
      have HY := hid (fun W => byte_any u k 256 W hu (by omega))
      rw [hx] at HX
      rw [hy] at HY
      have HAT := hid (And.intro hat (And.intro hx hy))
      have HO := hid hown
      have HM := hid hbm
      clear hat hx hy hown hbm
      by_cases hlast : x + 1 < y
      · obtain ⟨z, hz⟩ : ∃ z, K.step x y = z := ⟨_, rfl⟩
        have hzb := K.step_mid hlast
        have HZ := hid (fun W => step_any x y W hxb.1 (by omega) hyb.2)
        have HR := hid (K.at_last HAT.out.1 hk32 HAT.out.2.1 HAT.out.2.2 hlast)
        rw [hz] at HZ hzb HR
        clear hz HAT
        have hz1 : 0 ≤ x + z := by omega
        have hz2 : x + z < 256 := by omega
        have hzw : (x + z) % 256 = x + z := by omega
        have hl1 := Bs.lit wr 5 [x + z] (by simp [maxLen]) (by intro q hq; simp at hq; omega)
        have ho1 := HO.out.alloc (.cells #[.int .u8 (x + z)] 5)
        have hsz : w.heap.size ≤ (wr.alloc (.cells #[.int .u8 (x + z)] 5)).heap.size := by have := hbel.size; simp; omega
        have HL := hid hl1
        have HOW := hid ho1
        clear hl1 ho1
        go_wp2_with fail
        refine (HX.out _).mono ?_
        rintro e w2 ⟨rfl, rfl⟩
        go_wp2_with fail
        refine (HY.out _).mono ?_
        rintro e w2 ⟨rfl, rfl⟩
        go_wp2_with fail
        refine (HZ.out _).mono ?_
        rintro e w2 ⟨rfl, rfl⟩
        go_wp2_with (at_builtin; refine wpList_append_bs rfl (.tmp 28) (.tmp 35) rfl w.heap.size _ _ mk rfl HOW.out _ [x + z] rfl HL.out (by simp; omega) hsz ?_; intro v' w3 hown3 hgrow hat3; have hcv := conv_str (Bs.of_own hown3 (by intro q hq; rcases List.mem_append.1 hq with hq | hq; exact HM.out q hq; simp at hq; omega)); have B3 := hid (Below.grown (hbel.alloc hbel.size _) hgrow hsz (fun k hk => (HO.out.lt k hk).1)); clear hown3 hgrow hat3)
        go_ret2
        rw [HR.out]
        exact ⟨rfl, B3.out⟩
      · have hl1 := Bs.lit wr 5 [x] (by simp [maxLen]) (by intro q hq; simp at hq; omega)
        have ho1 := HO.out.alloc (.cells #[.int .u8 x] 5)
        have hsz : w.heap.size ≤ (wr.alloc (.cells #[.int .u8 x] 5)).heap.size := by have := hbel.size; simp; omega
        have hxw : x % 256 = x := by omega
        have HL := hid hl1
        have HOW := hid ho1
        have HMX : Hid (K.Byt (mk ++ [x])) := by
          intro q hq
          rcases List.mem_append.1 hq with hq | hq
          · exact HM.out q hq
          · simp at hq; omega
        clear hl1 ho1
        have hcase : ((y == x + 1) = true ∧ K.At R (tx s) [] (mk ++ [x]) (k + 1)) ∨ ((y == x + 1) = false ∧ K.At R (tx s) (tx u) (mk ++ [x]) (k + 1)) := by
          by_cases h1 : y = x + 1
          · exact .inl ⟨by simp [h1], K.at_one HAT.out.1 hk32 HAT.out.2.1 HAT.out.2.2 h1⟩
          · exact .inr ⟨by simp [h1], K.at_same HAT.out.1 hk32 HAT.out.2.1 HAT.out.2.2 hlast h1⟩
        clear HAT
        rcases hcase with ⟨hy1, hat⟩ | ⟨hy1, hat⟩
        all_goals
          have HAT := hid hat
          clear hat
          go_wp2_with fail
          refine (HX.out _).mono ?_
          rintro e w2 ⟨rfl, rfl⟩
          go_wp2_with fail
          refine (HY.out _).mono ?_
          rintro e w2 ⟨rfl, rfl⟩
          go_wp2_with (at_builtin; refine wpList_append_bs rfl (.tmp 42) (.tmp 45) rfl w.heap.size _ _ mk rfl HOW.out _ [x] rfl HL.out (by simp; omega) hsz ?_; intro v' w3 hown3 hgrow hat3; have B3 := hid (Below.grown (hbel.alloc hbel.size _) hgrow hsz (fun k hk => (HO.out.lt k hk).1)); have H3 := hid hown3; clear hown3 hgrow hat3)
          go_roundw
        · exact ⟨k + 1, ⟨#[]⟩, mk ++ [x], by omega, by go_num, rfl, Nat.zero_le _, H3.out, HMX.out, HAT.out, B3.out⟩
        · simp [intOf]; omega
        · exact ⟨k + 1, u, mk ++ [x], by omega, by go_num, rfl, hu, H3.out, HMX.out, HAT.out, B3.out⟩
        · simp [intOf]; omega
    · obtain rfl : k = 32 := by omega
      have hR := K.at_end hat
      subst hR
      clear hat
      go_wp2
      go_ret2
      exact ⟨rfl, hbel⟩

theorem between_any (s t : ByteArray) (w : World) (hs : s.size ≤ 1099511627776) (ht : t.size ≤ 1099511627776) :
    Calls Try.prog 8 #[.string s, .string t] w fun e w' => e = .returned (kv (K.key (tx s) (tx t))) ∧ Below w.heap.size w w' := by
  unfold K.key
  cases h : K.fine (tx s) (tx t)
  · exact between_no s t w hs ht h
  · exact between_yes s t w hs ht h

end Go.Proofs.Ytobnnidlpbnbkaa
