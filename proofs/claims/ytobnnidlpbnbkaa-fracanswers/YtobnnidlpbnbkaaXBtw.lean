/-
  What the reference's Between answers is proved here, for all texts of at most 2^40 bytes: the key that 'K.key' tells, or none.
-/
import Derived.Test.YtobnnidlpbnbkaaXTexts
import Derived.Test.YtobnnidlpbnbkaaFBtw
namespace Go.Proofs.Ytobnnidlpbnbkaa
open Go.RowKit
set_option linter.unusedVariables false

theorem ord_geq_not (a b : List Int) (l : Bool) (h : K.lt a b = l) : decide (0 ≤ K.ord a b) = !l := by rw [K.ord_geq, h]

set_option maxHeartbeats 2000000 in
set_option maxRecDepth 100000 in
theorem xbetween_no (s t : ByteArray) (w : World) (hs : s.size ≤ 1099511627776) (ht : t.size ≤ 1099511627776) (h : K.fine (tx s) (tx t) = false) :
    Calls Try.prog 9 #[.string s, .string t] w fun e w' => e = .returned (kv none) ∧ Below w.heap.size w w' := by
  have HS := hid (fun W => xright_any s W hs)
  have HT := hid (fun W => xright_any t W ht)
  have HO := hid (fun W => texts_any s t W hs ht)
  have n1 := nil_tx s
  have n2 := nil_tx t
  obtain ⟨od, hod⟩ : ∃ od, K.ord (tx s) (tx t) = od := ⟨_, rfl⟩
  have ho := ord_geq_not (tx s) (tx t) _ rfl
  rw [hod] at HO ho
  clear hod
  have hF : ((decide (tx s = []) || K.right (tx s)) && (decide (tx t = []) || K.right (tx t)) && (decide (tx s = []) || decide (tx t = []) || K.lt (tx s) (tx t))) = false := by
    unfold K.fine at h
    by_cases e1 : tx s = []
    · by_cases e2 : tx t = []
      · simp [e1, e2] at h
      · have := K.lt_nil e2
        rw [e1] at h ⊢
        simp [e2, this] at h ⊢
        exact h
    · simpa [e1] using h
  have HF := hid hF
  clear hF h
  generalize K.right (tx s) = rs at HS HF
  generalize K.right (tx t) = rt at HT HF
  generalize K.lt (tx s) (tx t) = l at ho HF
  generalize decide (tx s = []) = e1 at n1 HF
  generalize decide (tx t = []) = e2 at n2 HF
  cases e1
  · cases rs
    · clear HF
      go_enter Try.func9, Try.ntmps9
      go_wp2_with fail
      refine (HS.out _).mono ?_
      rintro e w' ⟨rfl, rfl⟩
      go_wp2
      go_ret2
      exact ⟨rfl, Below.refl _ _⟩
    · cases e2
      · cases rt
        · clear HF
          go_enter Try.func9, Try.ntmps9
          go_wp2_with fail
          refine (HS.out _).mono ?_
          rintro e w' ⟨rfl, rfl⟩
          go_wp2_with fail
          refine (HT.out _).mono ?_
          rintro e w' ⟨rfl, rfl⟩
          go_wp2
          go_ret2
          exact ⟨rfl, Below.refl _ _⟩
        · cases l
          · clear HF
            go_enter Try.func9, Try.ntmps9
            go_wp2_with fail
            refine (HS.out _).mono ?_
            rintro e w' ⟨rfl, rfl⟩
            go_wp2_with fail
            refine (HT.out _).mono ?_
            rintro e w' ⟨rfl, rfl⟩
            go_wp2_with fail
            refine (HO.out _).mono ?_
            rintro e w2 ⟨rfl, m2, rfl⟩
            go_wp2
            go_ret2
            exact ⟨rfl, bd _ _⟩
          · exact absurd HF.out (by simp)
      · exact absurd HF.out (by simp)
  · cases e2
    · cases rt
      · clear HF
        go_enter Try.func9, Try.ntmps9
        go_wp2_with fail
        refine (HT.out _).mono ?_
        rintro e w' ⟨rfl, rfl⟩
        go_wp2
        go_ret2
        exact ⟨rfl, Below.refl _ _⟩
      · exact absurd HF.out (by simp)
    · exact absurd HF.out (by simp)

set_option maxHeartbeats 8000000 in
set_option maxRecDepth 100000 in
theorem xbetween_00 (s t : ByteArray) (w : World) (hs : s.size ≤ 1099511627776) (ht : t.size ≤ 1099511627776)
    (e1 : ¬ tx s = []) (e2 : ¬ tx t = []) (hr1 : K.right (tx s) = true) (hr2 : K.right (tx t) = true) (hl : K.lt (tx s) (tx t) = true) :
    Calls Try.prog 9 #[.string s, .string t] w fun e w' => e = .returned (kv (K.btw 32 (tx s) (tx t))) ∧ Below w.heap.size w w' := by
  have HS := hid (fun W => xright_any s W hs)
  have HT := hid (fun W => xright_any t W ht)
  have HO := hid (fun W => texts_any s t W hs ht)
  have n1 := nil_tx s
  have n2 := nil_tx t
  obtain ⟨od, hod⟩ : ∃ od, K.ord (tx s) (tx t) = od := ⟨_, rfl⟩
  have ho := ord_geq_not (tx s) (tx t) _ rfl
  rw [hod] at HO ho
  clear hod
  rw [decide_eq_false e1] at n1
  rw [decide_eq_false e2] at n2
  rw [hr1] at HS
  rw [hr2] at HT
  rw [hl] at ho
  obtain ⟨R, hR⟩ : ∃ R, K.btw 32 (tx s) (tx t) = R := ⟨_, rfl⟩
  have ha : K.At R (tx s) (if true = true then tx t else []) [] 0 := by
    rw [← hR]
    have := K.at_start (tx s) (tx t)
    simpa using this
  have HA := hid ha
  clear ha
  rw [hR]
  clear hR e1 e2
  go_enter Try.func9, Try.ntmps9
  go_wp2_with fail
  refine (HS.out _).mono ?_
  rintro e w' ⟨rfl, rfl⟩
  go_wp2_with fail
  refine (HT.out _).mono ?_
  rintro e w' ⟨rfl, rfl⟩
  go_wp2_with fail
  refine (HO.out _).mono ?_
  rintro e w2 ⟨rfl, m2, rfl⟩
  go_wp2
  have hown0 : ((w.drewN m2).alloc (.cells #[] 5)).ownsRow w.heap.size 5 1 (.slice (some ⟨(w.drewN m2).heap.size, 0, none⟩) 0 0) 0 (cs []) := World.ownsRow_made (w.drewN m2) #[] 0 (Nat.le_refl _) (Nat.zero_le _) rfl
  have hbel : Below w.heap.size w ((w.drewN m2).alloc (.cells #[] 5)) := bt (bd w m2) (ba _ _)
  go_loopw [6, 7, 8] (fun v tv i wr => ∃ (k : Nat) (tg : Bool) (mk : List Int), k ≤ 32 ∧ i = .int .i64 k ∧ tv = .bool tg ∧ wr.ownsRow w.heap.size 5 1 v k (cs mk) ∧ K.Byt mk ∧ K.At R (tx s) (if tg = true then tx t else []) mk k ∧ Below w.heap.size w wr) (fun _ _ i _ => 32 - (intOf i).toNat)
  case atStart => exact ⟨0, true, [], by omega, rfl, rfl, hown0, K.Byt.nil, HA.out, hbel⟩
  case round =>
    clear hown0 hbel HA
    obtain ⟨k, tg, mk, hk, rfl, rfl, hown, hbm, hat, hbel⟩ := hrel
    have HO := hid hown
    have HM := hid hbm
    have HAT := hid hat
    clear hown hbm hat
    by_cases hk32 : k < 32
    · by_cases h1 : k < s.size
      · have hX := tx_head h1 0
        obtain ⟨x, hx⟩ : ∃ x, (s[k]).toNat = x := ⟨_, rfl⟩
        have hxb : x < 256 := by rw [← hx]; exact (s[k]).toNat_lt
        rw [hx] at hX
        have h1' : (k : Int) < (s.size : Int) := by omega
        have HX := hid hX
        clear hX
        cases tg
        · have hY : (((if false = true then tx t else []) : List Int).drop k).headD 256 = 256 := by simp
          have HY := hid hY
          clear hY
          by_cases hlast : x = 255
          · subst hlast
            have HA2 := hid (K.at_one HAT.out hk32 HX.out HY.out (by omega))
            clear HAT HX HY

            have hl1 := Bs.lit wr 5 [255] (by simp [maxLen]) (by intro q hq; simp at hq; omega)
            have ho1 := HO.out.alloc (.cells #[.int .u8 (255)] 5)
            have hsz : w.heap.size ≤ (wr.alloc (.cells #[.int .u8 (255)] 5)).heap.size := by have := hbel.size; simp; omega
            have HL := hid hl1
            have HOW := hid ho1
            clear hl1 ho1
            go_wp2_with (at_builtin; refine wpList_append_bs rfl (.tmp 92) (.tmp 95) rfl w.heap.size _ _ mk rfl HOW.out _ [255] rfl HL.out (by simp; omega) hsz ?_; intro v' w3 hown3 hgrow hat3; have B3 := hid (Below.grown (hbel.alloc hbel.size _) hgrow hsz (fun k hk => (HO.out.lt k hk).1)); have H3 := hid hown3; clear hown3 hgrow hat3)
            go_roundw
            case rel => exact ⟨k + 1, false, mk ++ [255], by omega, by go_num, rfl, H3.out, (by intro q hq; rcases List.mem_append.1 hq with hq | hq; exact HM.out q hq; simp at hq; omega), HA2.out, B3.out⟩
            case measure => simp [intOf]; omega
          · have HR := hid (K.at_last HAT.out hk32 HX.out HY.out (by omega))
            have hd : (256 - (x : Int)).tdiv 2 = (256 - (x : Int)) / 2 := Int.tdiv_eq_ediv_of_nonneg (by omega)
            by_cases h8 : 8 < (256 - (x : Int)) / 2
            · rw [show K.step (x : Int) 256 = 8 by unfold K.step; rw [if_pos rfl]; omega] at HR
              clear HAT HX HY
              have hl1 := Bs.lit wr 5 [(x : Int) + 8] (by simp [maxLen]) (by intro q hq; simp at hq; omega)
              have ho1 := HO.out.alloc (.cells #[.int .u8 ((x : Int) + 8)] 5)
              have hsz : w.heap.size ≤ (wr.alloc (.cells #[.int .u8 ((x : Int) + 8)] 5)).heap.size := by have := hbel.size; simp; omega
              have HL := hid hl1
              have HOW := hid ho1
              clear hl1 ho1
              go_wp2_with (at_builtin; refine wpList_append_bs rfl (.tmp 80) (.tmp 85) rfl w.heap.size _ _ mk rfl HOW.out _ [(x : Int) + 8] rfl HL.out (by simp; omega) hsz ?_; intro v' w3 hown3 hgrow hat3; have hcv := conv_str (Bs.of_own hown3 (by intro q hq; rcases List.mem_append.1 hq with hq | hq; exact HM.out q hq; simp at hq; omega)); have B3 := hid (Below.grown (hbel.alloc hbel.size _) hgrow hsz (fun k hk => (HO.out.lt k hk).1)); clear hown3 hgrow hat3)
              go_ret2
              rw [HR.out]
              exact ⟨rfl, B3.out⟩
            · obtain ⟨z, hz⟩ : ∃ z, (256 - (x : Int)) / 2 = z := ⟨_, rfl⟩
              rw [show K.step (x : Int) 256 = z by unfold K.step; rw [if_pos rfl]; omega] at HR
              have hzb : 1 ≤ z ∧ z ≤ 8 := by omega
              have hz2 : (x : Int) + z < 256 := by omega
              clear HAT HX HY
              have hl1 := Bs.lit wr 5 [(x : Int) + z] (by simp [maxLen]) (by intro q hq; simp at hq; omega)
              have ho1 := HO.out.alloc (.cells #[.int .u8 ((x : Int) + z)] 5)
              have hsz : w.heap.size ≤ (wr.alloc (.cells #[.int .u8 ((x : Int) + z)] 5)).heap.size := by have := hbel.size; simp; omega
              have HL := hid hl1
              have HOW := hid ho1
              clear hl1 ho1
              go_wp2_with (at_builtin; refine wpList_append_bs rfl (.tmp 80) (.tmp 85) rfl w.heap.size _ _ mk rfl HOW.out _ [(x : Int) + z] rfl HL.out (by simp; omega) hsz ?_; intro v' w3 hown3 hgrow hat3; have hcv := conv_str (Bs.of_own hown3 (by intro q hq; rcases List.mem_append.1 hq with hq | hq; exact HM.out q hq; simp at hq; omega)); have B3 := hid (Below.grown (hbel.alloc hbel.size _) hgrow hsz (fun k hk => (HO.out.lt k hk).1)); clear hown3 hgrow hat3)
              go_ret2
              rw [HR.out]
              exact ⟨rfl, B3.out⟩
        · by_cases h2 : k < t.size
          · have hY := tx_head h2 256
            obtain ⟨y, hy⟩ : ∃ y, (t[k]).toNat = y := ⟨_, rfl⟩
            have hyb : y < 256 := by rw [← hy]; exact (t[k]).toNat_lt
            rw [hy] at hY
            have h2' : (k : Int) < (t.size : Int) := by omega
            have HY := hid hY
            clear hY
            by_cases hlast : (x : Int) + 1 < (y : Int)
            · have HR := hid (K.at_last HAT.out hk32 HX.out HY.out (by omega))
              have hd : (((y : Int) - (x : Int))).tdiv 2 = ((y : Int) - (x : Int)) / 2 := Int.tdiv_eq_ediv_of_nonneg (by omega)
              obtain ⟨z, hz⟩ : ∃ z, ((y : Int) - (x : Int)) / 2 = z := ⟨_, rfl⟩
              have hyn : ((y : Int) == 256) = false := by simp; omega
              rw [show (x : Int) + K.step (x : Int) (y : Int) = (x : Int) + z by unfold K.step; rw [if_neg (by omega)]; omega] at HR
              have hzb : 1 ≤ z ∧ (x : Int) + z < 256 := by omega
              clear HAT HX HY
              have hl1 := Bs.lit wr 5 [(x : Int) + z] (by simp [maxLen]) (by intro q hq; simp at hq; omega)
              have ho1 := HO.out.alloc (.cells #[.int .u8 ((x : Int) + z)] 5)
              have hsz : w.heap.size ≤ (wr.alloc (.cells #[.int .u8 ((x : Int) + z)] 5)).heap.size := by have := hbel.size; simp; omega
              have HL := hid hl1
              have HOW := hid ho1
              clear hl1 ho1
              go_wp2_with (at_builtin; refine wpList_append_bs rfl (.tmp 80) (.tmp 85) rfl w.heap.size _ _ mk rfl HOW.out _ [(x : Int) + z] rfl HL.out (by simp; omega) hsz ?_; intro v' w3 hown3 hgrow hat3; have hcv := conv_str (Bs.of_own hown3 (by intro q hq; rcases List.mem_append.1 hq with hq | hq; exact HM.out q hq; simp at hq; omega)); have B3 := hid (Below.grown (hbel.alloc hbel.size _) hgrow hsz (fun k hk => (HO.out.lt k hk).1)); clear hown3 hgrow hat3)
              go_ret2
              rw [HR.out]
              exact ⟨rfl, B3.out⟩
            · by_cases hone : (y : Int) = (x : Int) + 1
              · have HA2 := hid (K.at_one HAT.out hk32 HX.out HY.out (by omega))
                clear HAT HX HY
                have hone' : ((y : Int) == (x : Int) + 1) = true := by simp [hone]
                have hl1 := Bs.lit wr 5 [(x : Int)] (by simp [maxLen]) (by intro q hq; simp at hq; omega)
                have ho1 := HO.out.alloc (.cells #[.int .u8 ((x : Int))] 5)
                have hsz : w.heap.size ≤ (wr.alloc (.cells #[.int .u8 ((x : Int))] 5)).heap.size := by have := hbel.size; simp; omega
                have HL := hid hl1
                have HOW := hid ho1
                clear hl1 ho1
                go_wp2_with (at_builtin; refine wpList_append_bs rfl (.tmp 92) (.tmp 95) rfl w.heap.size _ _ mk rfl HOW.out _ [(x : Int)] rfl HL.out (by simp; omega) hsz ?_; intro v' w3 hown3 hgrow hat3; have B3 := hid (Below.grown (hbel.alloc hbel.size _) hgrow hsz (fun k hk => (HO.out.lt k hk).1)); have H3 := hid hown3; clear hown3 hgrow hat3)
                go_roundw
                case rel => exact ⟨k + 1, false, mk ++ [(x : Int)], by omega, by go_num, rfl, H3.out, (by intro q hq; rcases List.mem_append.1 hq with hq | hq; exact HM.out q hq; simp at hq; omega), HA2.out, B3.out⟩
                case measure => simp [intOf]; omega
              · have HA2 := hid (K.at_same HAT.out hk32 HX.out HY.out (by omega) (by omega))
                clear HAT HX HY
                have hone' : ((y : Int) == (x : Int) + 1) = false := by simpa using hone
                have hl1 := Bs.lit wr 5 [(x : Int)] (by simp [maxLen]) (by intro q hq; simp at hq; omega)
                have ho1 := HO.out.alloc (.cells #[.int .u8 ((x : Int))] 5)
                have hsz : w.heap.size ≤ (wr.alloc (.cells #[.int .u8 ((x : Int))] 5)).heap.size := by have := hbel.size; simp; omega
                have HL := hid hl1
                have HOW := hid ho1
                clear hl1 ho1
                go_wp2_with (at_builtin; refine wpList_append_bs rfl (.tmp 92) (.tmp 95) rfl w.heap.size _ _ mk rfl HOW.out _ [(x : Int)] rfl HL.out (by simp; omega) hsz ?_; intro v' w3 hown3 hgrow hat3; have B3 := hid (Below.grown (hbel.alloc hbel.size _) hgrow hsz (fun k hk => (HO.out.lt k hk).1)); have H3 := hid hown3; clear hown3 hgrow hat3)
                go_roundw
                case rel => exact ⟨k + 1, true, mk ++ [(x : Int)], by omega, by go_num, rfl, H3.out, (by intro q hq; rcases List.mem_append.1 hq with hq | hq; exact HM.out q hq; simp at hq; omega), HA2.out, B3.out⟩
                case measure => simp [intOf]; omega
          · have hY := tx_none (s := t) (k := k) (by omega) 256
            have h2' : decide (k < t.size) = false := by simp; omega
            have HY := hid hY
            clear hY
            by_cases hlast : x = 255
            · subst hlast
              have HA2 := hid (K.at_one HAT.out hk32 HX.out HY.out (by omega))
              clear HAT HX HY

              have hl1 := Bs.lit wr 5 [255] (by simp [maxLen]) (by intro q hq; simp at hq; omega)
              have ho1 := HO.out.alloc (.cells #[.int .u8 (255)] 5)
              have hsz : w.heap.size ≤ (wr.alloc (.cells #[.int .u8 (255)] 5)).heap.size := by have := hbel.size; simp; omega
              have HL := hid hl1
              have HOW := hid ho1
              clear hl1 ho1
              go_wp2_with (at_builtin; refine wpList_append_bs rfl (.tmp 92) (.tmp 95) rfl w.heap.size _ _ mk rfl HOW.out _ [255] rfl HL.out (by simp; omega) hsz ?_; intro v' w3 hown3 hgrow hat3; have B3 := hid (Below.grown (hbel.alloc hbel.size _) hgrow hsz (fun k hk => (HO.out.lt k hk).1)); have H3 := hid hown3; clear hown3 hgrow hat3)
              go_roundw
              case rel => exact ⟨k + 1, false, mk ++ [255], by omega, by go_num, rfl, H3.out, (by intro q hq; rcases List.mem_append.1 hq with hq | hq; exact HM.out q hq; simp at hq; omega), HA2.out, B3.out⟩
              case measure => simp [intOf]; omega
            · have HR := hid (K.at_last HAT.out hk32 HX.out HY.out (by omega))
              have hd : (256 - (x : Int)).tdiv 2 = (256 - (x : Int)) / 2 := Int.tdiv_eq_ediv_of_nonneg (by omega)
              by_cases h8 : 8 < (256 - (x : Int)) / 2
              · rw [show K.step (x : Int) 256 = 8 by unfold K.step; rw [if_pos rfl]; omega] at HR
                clear HAT HX HY
                have hl1 := Bs.lit wr 5 [(x : Int) + 8] (by simp [maxLen]) (by intro q hq; simp at hq; omega)
                have ho1 := HO.out.alloc (.cells #[.int .u8 ((x : Int) + 8)] 5)
                have hsz : w.heap.size ≤ (wr.alloc (.cells #[.int .u8 ((x : Int) + 8)] 5)).heap.size := by have := hbel.size; simp; omega
                have HL := hid hl1
                have HOW := hid ho1
                clear hl1 ho1
                go_wp2_with (at_builtin; refine wpList_append_bs rfl (.tmp 80) (.tmp 85) rfl w.heap.size _ _ mk rfl HOW.out _ [(x : Int) + 8] rfl HL.out (by simp; omega) hsz ?_; intro v' w3 hown3 hgrow hat3; have hcv := conv_str (Bs.of_own hown3 (by intro q hq; rcases List.mem_append.1 hq with hq | hq; exact HM.out q hq; simp at hq; omega)); have B3 := hid (Below.grown (hbel.alloc hbel.size _) hgrow hsz (fun k hk => (HO.out.lt k hk).1)); clear hown3 hgrow hat3)
                go_ret2
                rw [HR.out]
                exact ⟨rfl, B3.out⟩
              · obtain ⟨z, hz⟩ : ∃ z, (256 - (x : Int)) / 2 = z := ⟨_, rfl⟩
                rw [show K.step (x : Int) 256 = z by unfold K.step; rw [if_pos rfl]; omega] at HR
                have hzb : 1 ≤ z ∧ z ≤ 8 := by omega
                have hz2 : (x : Int) + z < 256 := by omega
                clear HAT HX HY
                have hl1 := Bs.lit wr 5 [(x : Int) + z] (by simp [maxLen]) (by intro q hq; simp at hq; omega)
                have ho1 := HO.out.alloc (.cells #[.int .u8 ((x : Int) + z)] 5)
                have hsz : w.heap.size ≤ (wr.alloc (.cells #[.int .u8 ((x : Int) + z)] 5)).heap.size := by have := hbel.size; simp; omega
                have HL := hid hl1
                have HOW := hid ho1
                clear hl1 ho1
                go_wp2_with (at_builtin; refine wpList_append_bs rfl (.tmp 80) (.tmp 85) rfl w.heap.size _ _ mk rfl HOW.out _ [(x : Int) + z] rfl HL.out (by simp; omega) hsz ?_; intro v' w3 hown3 hgrow hat3; have hcv := conv_str (Bs.of_own hown3 (by intro q hq; rcases List.mem_append.1 hq with hq | hq; exact HM.out q hq; simp at hq; omega)); have B3 := hid (Below.grown (hbel.alloc hbel.size _) hgrow hsz (fun k hk => (HO.out.lt k hk).1)); clear hown3 hgrow hat3)
                go_ret2
                rw [HR.out]
                exact ⟨rfl, B3.out⟩
      · have hX := tx_none (s := s) (k := k) (by omega) 0
        have h1' : decide (k < s.size) = false := by simp; omega
        have HX := hid hX
        clear hX
        cases tg
        · have hY : (((if false = true then tx t else []) : List Int).drop k).headD 256 = 256 := by simp
          have HY := hid hY
          clear hY
          have HR := hid (K.at_last HAT.out hk32 HX.out HY.out (by decide))
          rw [show (0 : Int) + K.step 0 256 = 8 by decide] at HR
          clear HAT HX HY
          have hl1 := Bs.lit wr 5 [8] (by simp [maxLen]) (by intro q hq; simp at hq; omega)
          have ho1 := HO.out.alloc (.cells #[.int .u8 (8)] 5)
          have hsz : w.heap.size ≤ (wr.alloc (.cells #[.int .u8 (8)] 5)).heap.size := by have := hbel.size; simp; omega
          have HL := hid hl1
          have HOW := hid ho1
          clear hl1 ho1
          go_wp2_with (at_builtin; refine wpList_append_bs rfl (.tmp 80) (.tmp 85) rfl w.heap.size _ _ mk rfl HOW.out _ [8] rfl HL.out (by simp; omega) hsz ?_; intro v' w3 hown3 hgrow hat3; have hcv := conv_str (Bs.of_own hown3 (by intro q hq; rcases List.mem_append.1 hq with hq | hq; exact HM.out q hq; simp at hq; omega)); have B3 := hid (Below.grown (hbel.alloc hbel.size _) hgrow hsz (fun k hk => (HO.out.lt k hk).1)); clear hown3 hgrow hat3)
          go_ret2
          rw [HR.out]
          exact ⟨rfl, B3.out⟩
        · by_cases h2 : k < t.size
          · have hY := tx_head h2 256
            obtain ⟨y, hy⟩ : ∃ y, (t[k]).toNat = y := ⟨_, rfl⟩
            have hyb : y < 256 := by rw [← hy]; exact (t[k]).toNat_lt
            rw [hy] at hY
            have h2' : (k : Int) < (t.size : Int) := by omega
            have HY := hid hY
            clear hY
            by_cases hlast : 1 < (y : Int)
            · have HR := hid (K.at_last HAT.out hk32 HX.out HY.out (by omega))
              have hd : ((y : Int)).tdiv 2 = (y : Int) / 2 := Int.tdiv_eq_ediv_of_nonneg (by omega)
              obtain ⟨z, hz⟩ : ∃ z, (y : Int) / 2 = z := ⟨_, rfl⟩
              have hyn : ((y : Int) == 256) = false := by simp; omega
              rw [show (0 : Int) + K.step (0 : Int) (y : Int) = z by unfold K.step; rw [if_neg (by omega)]; omega] at HR
              have hzb : 1 ≤ z ∧ z < 256 := by omega
              clear HAT HX HY
              have hl1 := Bs.lit wr 5 [z] (by simp [maxLen]) (by intro q hq; simp at hq; omega)
              have ho1 := HO.out.alloc (.cells #[.int .u8 (z)] 5)
              have hsz : w.heap.size ≤ (wr.alloc (.cells #[.int .u8 (z)] 5)).heap.size := by have := hbel.size; simp; omega
              have HL := hid hl1
              have HOW := hid ho1
              clear hl1 ho1
              go_wp2_with (at_builtin; refine wpList_append_bs rfl (.tmp 80) (.tmp 85) rfl w.heap.size _ _ mk rfl HOW.out _ [z] rfl HL.out (by simp; omega) hsz ?_; intro v' w3 hown3 hgrow hat3; have hcv := conv_str (Bs.of_own hown3 (by intro q hq; rcases List.mem_append.1 hq with hq | hq; exact HM.out q hq; simp at hq; omega)); have B3 := hid (Below.grown (hbel.alloc hbel.size _) hgrow hsz (fun k hk => (HO.out.lt k hk).1)); clear hown3 hgrow hat3)
              go_ret2
              rw [HR.out]
              exact ⟨rfl, B3.out⟩
            · by_cases hone : (y : Int) = 1
              · have HA2 := hid (K.at_one HAT.out hk32 HX.out HY.out (by omega))
                clear HAT HX HY
                have hone' : ((y : Int) == 1) = true := by simp [hone]
                have hl1 := Bs.lit wr 5 [0] (by simp [maxLen]) (by intro q hq; simp at hq; omega)
                have ho1 := HO.out.alloc (.cells #[.int .u8 (0)] 5)
                have hsz : w.heap.size ≤ (wr.alloc (.cells #[.int .u8 (0)] 5)).heap.size := by have := hbel.size; simp; omega
                have HL := hid hl1
                have HOW := hid ho1
                clear hl1 ho1
                go_wp2_with (at_builtin; refine wpList_append_bs rfl (.tmp 92) (.tmp 95) rfl w.heap.size _ _ mk rfl HOW.out _ [0] rfl HL.out (by simp; omega) hsz ?_; intro v' w3 hown3 hgrow hat3; have B3 := hid (Below.grown (hbel.alloc hbel.size _) hgrow hsz (fun k hk => (HO.out.lt k hk).1)); have H3 := hid hown3; clear hown3 hgrow hat3)
                go_roundw
                case rel => exact ⟨k + 1, false, mk ++ [0], by omega, by go_num, rfl, H3.out, (by intro q hq; rcases List.mem_append.1 hq with hq | hq; exact HM.out q hq; simp at hq; omega), HA2.out, B3.out⟩
                case measure => simp [intOf]; omega
              · have HA2 := hid (K.at_same HAT.out hk32 HX.out HY.out (by omega) (by omega))
                clear HAT HX HY
                have hone' : ((y : Int) == 1) = false := by simpa using hone
                have hl1 := Bs.lit wr 5 [0] (by simp [maxLen]) (by intro q hq; simp at hq; omega)
                have ho1 := HO.out.alloc (.cells #[.int .u8 (0)] 5)
                have hsz : w.heap.size ≤ (wr.alloc (.cells #[.int .u8 (0)] 5)).heap.size := by have := hbel.size; simp; omega
                have HL := hid hl1
                have HOW := hid ho1
                clear hl1 ho1
                go_wp2_with (at_builtin; refine wpList_append_bs rfl (.tmp 92) (.tmp 95) rfl w.heap.size _ _ mk rfl HOW.out _ [0] rfl HL.out (by simp; omega) hsz ?_; intro v' w3 hown3 hgrow hat3; have B3 := hid (Below.grown (hbel.alloc hbel.size _) hgrow hsz (fun k hk => (HO.out.lt k hk).1)); have H3 := hid hown3; clear hown3 hgrow hat3)
                go_roundw
                case rel => exact ⟨k + 1, true, mk ++ [0], by omega, by go_num, rfl, H3.out, (by intro q hq; rcases List.mem_append.1 hq with hq | hq; exact HM.out q hq; simp at hq; omega), HA2.out, B3.out⟩
                case measure => simp [intOf]; omega
          · have hY := tx_none (s := t) (k := k) (by omega) 256
            have h2' : decide (k < t.size) = false := by simp; omega
            have HY := hid hY
            clear hY
            have HR := hid (K.at_last HAT.out hk32 HX.out HY.out (by decide))
            rw [show (0 : Int) + K.step 0 256 = 8 by decide] at HR
            clear HAT HX HY
            have hl1 := Bs.lit wr 5 [8] (by simp [maxLen]) (by intro q hq; simp at hq; omega)
            have ho1 := HO.out.alloc (.cells #[.int .u8 (8)] 5)
            have hsz : w.heap.size ≤ (wr.alloc (.cells #[.int .u8 (8)] 5)).heap.size := by have := hbel.size; simp; omega
            have HL := hid hl1
            have HOW := hid ho1
            clear hl1 ho1
            go_wp2_with (at_builtin; refine wpList_append_bs rfl (.tmp 80) (.tmp 85) rfl w.heap.size _ _ mk rfl HOW.out _ [8] rfl HL.out (by simp; omega) hsz ?_; intro v' w3 hown3 hgrow hat3; have hcv := conv_str (Bs.of_own hown3 (by intro q hq; rcases List.mem_append.1 hq with hq | hq; exact HM.out q hq; simp at hq; omega)); have B3 := hid (Below.grown (hbel.alloc hbel.size _) hgrow hsz (fun k hk => (HO.out.lt k hk).1)); clear hown3 hgrow hat3)
            go_ret2
            rw [HR.out]
            exact ⟨rfl, B3.out⟩
    · obtain rfl : k = 32 := by omega
      have hR := K.at_end HAT.out
      subst hR
      clear HAT
      go_wp2
      go_ret2
      exact ⟨rfl, hbel⟩

set_option maxHeartbeats 8000000 in
set_option maxRecDepth 100000 in
theorem xbetween_01 (s t : ByteArray) (w : World) (hs : s.size ≤ 1099511627776) (ht : t.size ≤ 1099511627776)
    (e1 : ¬ tx s = []) (e2 : tx t = []) (hr1 : K.right (tx s) = true) :
    Calls Try.prog 9 #[.string s, .string t] w fun e w' => e = .returned (kv (K.btw 32 (tx s) (tx t))) ∧ Below w.heap.size w w' := by
  have HS := hid (fun W => xright_any s W hs)
  have HT := hid (fun W => xright_any t W ht)
  have HO := hid (fun W => texts_any s t W hs ht)
  have n1 := nil_tx s
  have n2 := nil_tx t
  obtain ⟨od, hod⟩ : ∃ od, K.ord (tx s) (tx t) = od := ⟨_, rfl⟩
  have ho := ord_geq_not (tx s) (tx t) _ rfl
  rw [hod] at HO ho
  clear hod
  rw [decide_eq_false e1] at n1
  rw [decide_eq_true e2] at n2
  rw [hr1] at HS
  obtain ⟨R, hR⟩ : ∃ R, K.btw 32 (tx s) (tx t) = R := ⟨_, rfl⟩
  have ha : K.At R (tx s) (if false = true then tx t else []) [] 0 := by
    rw [← hR]
    have := K.at_start (tx s) (tx t)
    simpa [e2] using this
  have HA := hid ha
  clear ha
  rw [hR]
  clear hR e1 e2
  go_enter Try.func9, Try.ntmps9
  go_wp2_with fail
  refine (HS.out _).mono ?_
  rintro e w' ⟨rfl, rfl⟩
  go_wp2
  have hown0 : (w.alloc (.cells #[] 5)).ownsRow w.heap.size 5 1 (.slice (some ⟨w.heap.size, 0, none⟩) 0 0) 0 (cs []) := World.ownsRow_made w #[] 0 (Nat.le_refl _) (Nat.zero_le _) rfl
  have hbel : Below w.heap.size w (w.alloc (.cells #[] 5)) := ba _ _
  go_loopw [6, 7, 8] (fun v tv i wr => ∃ (k : Nat) (tg : Bool) (mk : List Int), k ≤ 32 ∧ i = .int .i64 k ∧ tv = .bool tg ∧ wr.ownsRow w.heap.size 5 1 v k (cs mk) ∧ K.Byt mk ∧ K.At R (tx s) (if tg = true then tx t else []) mk k ∧ Below w.heap.size w wr) (fun _ _ i _ => 32 - (intOf i).toNat)
  case atStart => exact ⟨0, false, [], by omega, rfl, rfl, hown0, K.Byt.nil, HA.out, hbel⟩
  case round =>
    clear hown0 hbel HA
    obtain ⟨k, tg, mk, hk, rfl, rfl, hown, hbm, hat, hbel⟩ := hrel
    have HO := hid hown
    have HM := hid hbm
    have HAT := hid hat
    clear hown hbm hat
    by_cases hk32 : k < 32
    · by_cases h1 : k < s.size
      · have hX := tx_head h1 0
        obtain ⟨x, hx⟩ : ∃ x, (s[k]).toNat = x := ⟨_, rfl⟩
        have hxb : x < 256 := by rw [← hx]; exact (s[k]).toNat_lt
        rw [hx] at hX
        have h1' : (k : Int) < (s.size : Int) := by omega
        have HX := hid hX
        clear hX
        cases tg
        · have hY : (((if false = true then tx t else []) : List Int).drop k).headD 256 = 256 := by simp
          have HY := hid hY
          clear hY
          by_cases hlast : x = 255
          · subst hlast
            have HA2 := hid (K.at_one HAT.out hk32 HX.out HY.out (by omega))
            clear HAT HX HY

            have hl1 := Bs.lit wr 5 [255] (by simp [maxLen]) (by intro q hq; simp at hq; omega)
            have ho1 := HO.out.alloc (.cells #[.int .u8 (255)] 5)
            have hsz : w.heap.size ≤ (wr.alloc (.cells #[.int .u8 (255)] 5)).heap.size := by have := hbel.size; simp; omega
            have HL := hid hl1
            have HOW := hid ho1
            clear hl1 ho1
            go_wp2_with (at_builtin; refine wpList_append_bs rfl (.tmp 92) (.tmp 95) rfl w.heap.size _ _ mk rfl HOW.out _ [255] rfl HL.out (by simp; omega) hsz ?_; intro v' w3 hown3 hgrow hat3; have B3 := hid (Below.grown (hbel.alloc hbel.size _) hgrow hsz (fun k hk => (HO.out.lt k hk).1)); have H3 := hid hown3; clear hown3 hgrow hat3)
            go_roundw
            case rel => exact ⟨k + 1, false, mk ++ [255], by omega, by go_num, rfl, H3.out, (by intro q hq; rcases List.mem_append.1 hq with hq | hq; exact HM.out q hq; simp at hq; omega), HA2.out, B3.out⟩
            case measure => simp [intOf]; omega
          · have HR := hid (K.at_last HAT.out hk32 HX.out HY.out (by omega))
            have hd : (256 - (x : Int)).tdiv 2 = (256 - (x : Int)) / 2 := Int.tdiv_eq_ediv_of_nonneg (by omega)
            by_cases h8 : 8 < (256 - (x : Int)) / 2
            · rw [show K.step (x : Int) 256 = 8 by unfold K.step; rw [if_pos rfl]; omega] at HR
              clear HAT HX HY
              have hl1 := Bs.lit wr 5 [(x : Int) + 8] (by simp [maxLen]) (by intro q hq; simp at hq; omega)
              have ho1 := HO.out.alloc (.cells #[.int .u8 ((x : Int) + 8)] 5)
              have hsz : w.heap.size ≤ (wr.alloc (.cells #[.int .u8 ((x : Int) + 8)] 5)).heap.size := by have := hbel.size; simp; omega
              have HL := hid hl1
              have HOW := hid ho1
              clear hl1 ho1
              go_wp2_with (at_builtin; refine wpList_append_bs rfl (.tmp 80) (.tmp 85) rfl w.heap.size _ _ mk rfl HOW.out _ [(x : Int) + 8] rfl HL.out (by simp; omega) hsz ?_; intro v' w3 hown3 hgrow hat3; have hcv := conv_str (Bs.of_own hown3 (by intro q hq; rcases List.mem_append.1 hq with hq | hq; exact HM.out q hq; simp at hq; omega)); have B3 := hid (Below.grown (hbel.alloc hbel.size _) hgrow hsz (fun k hk => (HO.out.lt k hk).1)); clear hown3 hgrow hat3)
              go_ret2
              rw [HR.out]
              exact ⟨rfl, B3.out⟩
            · obtain ⟨z, hz⟩ : ∃ z, (256 - (x : Int)) / 2 = z := ⟨_, rfl⟩
              rw [show K.step (x : Int) 256 = z by unfold K.step; rw [if_pos rfl]; omega] at HR
              have hzb : 1 ≤ z ∧ z ≤ 8 := by omega
              have hz2 : (x : Int) + z < 256 := by omega
              clear HAT HX HY
              have hl1 := Bs.lit wr 5 [(x : Int) + z] (by simp [maxLen]) (by intro q hq; simp at hq; omega)
              have ho1 := HO.out.alloc (.cells #[.int .u8 ((x : Int) + z)] 5)
              have hsz : w.heap.size ≤ (wr.alloc (.cells #[.int .u8 ((x : Int) + z)] 5)).heap.size := by have := hbel.size; simp; omega
              have HL := hid hl1
              have HOW := hid ho1
              clear hl1 ho1
              go_wp2_with (at_builtin; refine wpList_append_bs rfl (.tmp 80) (.tmp 85) rfl w.heap.size _ _ mk rfl HOW.out _ [(x : Int) + z] rfl HL.out (by simp; omega) hsz ?_; intro v' w3 hown3 hgrow hat3; have hcv := conv_str (Bs.of_own hown3 (by intro q hq; rcases List.mem_append.1 hq with hq | hq; exact HM.out q hq; simp at hq; omega)); have B3 := hid (Below.grown (hbel.alloc hbel.size _) hgrow hsz (fun k hk => (HO.out.lt k hk).1)); clear hown3 hgrow hat3)
              go_ret2
              rw [HR.out]
              exact ⟨rfl, B3.out⟩
        · by_cases h2 : k < t.size
          · have hY := tx_head h2 256
            obtain ⟨y, hy⟩ : ∃ y, (t[k]).toNat = y := ⟨_, rfl⟩
            have hyb : y < 256 := by rw [← hy]; exact (t[k]).toNat_lt
            rw [hy] at hY
            have h2' : (k : Int) < (t.size : Int) := by omega
            have HY := hid hY
            clear hY
            by_cases hlast : (x : Int) + 1 < (y : Int)
            · have HR := hid (K.at_last HAT.out hk32 HX.out HY.out (by omega))
              have hd : (((y : Int) - (x : Int))).tdiv 2 = ((y : Int) - (x : Int)) / 2 := Int.tdiv_eq_ediv_of_nonneg (by omega)
              obtain ⟨z, hz⟩ : ∃ z, ((y : Int) - (x : Int)) / 2 = z := ⟨_, rfl⟩
              have hyn : ((y : Int) == 256) = false := by simp; omega
              rw [show (x : Int) + K.step (x : Int) (y : Int) = (x : Int) + z by unfold K.step; rw [if_neg (by omega)]; omega] at HR
              have hzb : 1 ≤ z ∧ (x : Int) + z < 256 := by omega
              clear HAT HX HY
              have hl1 := Bs.lit wr 5 [(x : Int) + z] (by simp [maxLen]) (by intro q hq; simp at hq; omega)
              have ho1 := HO.out.alloc (.cells #[.int .u8 ((x : Int) + z)] 5)
              have hsz : w.heap.size ≤ (wr.alloc (.cells #[.int .u8 ((x : Int) + z)] 5)).heap.size := by have := hbel.size; simp; omega
              have HL := hid hl1
              have HOW := hid ho1
              clear hl1 ho1
              go_wp2_with (at_builtin; refine wpList_append_bs rfl (.tmp 80) (.tmp 85) rfl w.heap.size _ _ mk rfl HOW.out _ [(x : Int) + z] rfl HL.out (by simp; omega) hsz ?_; intro v' w3 hown3 hgrow hat3; have hcv := conv_str (Bs.of_own hown3 (by intro q hq; rcases List.mem_append.1 hq with hq | hq; exact HM.out q hq; simp at hq; omega)); have B3 := hid (Below.grown (hbel.alloc hbel.size _) hgrow hsz (fun k hk => (HO.out.lt k hk).1)); clear hown3 hgrow hat3)
              go_ret2
              rw [HR.out]
              exact ⟨rfl, B3.out⟩
            · by_cases hone : (y : Int) = (x : Int) + 1
              · have HA2 := hid (K.at_one HAT.out hk32 HX.out HY.out (by omega))
                clear HAT HX HY
                have hone' : ((y : Int) == (x : Int) + 1) = true := by simp [hone]
                have hl1 := Bs.lit wr 5 [(x : Int)] (by simp [maxLen]) (by intro q hq; simp at hq; omega)
                have ho1 := HO.out.alloc (.cells #[.int .u8 ((x : Int))] 5)
                have hsz : w.heap.size ≤ (wr.alloc (.cells #[.int .u8 ((x : Int))] 5)).heap.size := by have := hbel.size; simp; omega
                have HL := hid hl1
                have HOW := hid ho1
                clear hl1 ho1
                go_wp2_with (at_builtin; refine wpList_append_bs rfl (.tmp 92) (.tmp 95) rfl w.heap.size _ _ mk rfl HOW.out _ [(x : Int)] rfl HL.out (by simp; omega) hsz ?_; intro v' w3 hown3 hgrow hat3; have B3 := hid (Below.grown (hbel.alloc hbel.size _) hgrow hsz (fun k hk => (HO.out.lt k hk).1)); have H3 := hid hown3; clear hown3 hgrow hat3)
                go_roundw
                case rel => exact ⟨k + 1, false, mk ++ [(x : Int)], by omega, by go_num, rfl, H3.out, (by intro q hq; rcases List.mem_append.1 hq with hq | hq; exact HM.out q hq; simp at hq; omega), HA2.out, B3.out⟩
                case measure => simp [intOf]; omega
              · have HA2 := hid (K.at_same HAT.out hk32 HX.out HY.out (by omega) (by omega))
                clear HAT HX HY
                have hone' : ((y : Int) == (x : Int) + 1) = false := by simpa using hone
                have hl1 := Bs.lit wr 5 [(x : Int)] (by simp [maxLen]) (by intro q hq; simp at hq; omega)
                have ho1 := HO.out.alloc (.cells #[.int .u8 ((x : Int))] 5)
                have hsz : w.heap.size ≤ (wr.alloc (.cells #[.int .u8 ((x : Int))] 5)).heap.size := by have := hbel.size; simp; omega
                have HL := hid hl1
                have HOW := hid ho1
                clear hl1 ho1
                go_wp2_with (at_builtin; refine wpList_append_bs rfl (.tmp 92) (.tmp 95) rfl w.heap.size _ _ mk rfl HOW.out _ [(x : Int)] rfl HL.out (by simp; omega) hsz ?_; intro v' w3 hown3 hgrow hat3; have B3 := hid (Below.grown (hbel.alloc hbel.size _) hgrow hsz (fun k hk => (HO.out.lt k hk).1)); have H3 := hid hown3; clear hown3 hgrow hat3)
                go_roundw
                case rel => exact ⟨k + 1, true, mk ++ [(x : Int)], by omega, by go_num, rfl, H3.out, (by intro q hq; rcases List.mem_append.1 hq with hq | hq; exact HM.out q hq; simp at hq; omega), HA2.out, B3.out⟩
                case measure => simp [intOf]; omega
          · have hY := tx_none (s := t) (k := k) (by omega) 256
            have h2' : decide (k < t.size) = false := by simp; omega
            have HY := hid hY
            clear hY
            by_cases hlast : x = 255
            · subst hlast
              have HA2 := hid (K.at_one HAT.out hk32 HX.out HY.out (by omega))
              clear HAT HX HY

              have hl1 := Bs.lit wr 5 [255] (by simp [maxLen]) (by intro q hq; simp at hq; omega)
              have ho1 := HO.out.alloc (.cells #[.int .u8 (255)] 5)
              have hsz : w.heap.size ≤ (wr.alloc (.cells #[.int .u8 (255)] 5)).heap.size := by have := hbel.size; simp; omega
              have HL := hid hl1
              have HOW := hid ho1
              clear hl1 ho1
              go_wp2_with (at_builtin; refine wpList_append_bs rfl (.tmp 92) (.tmp 95) rfl w.heap.size _ _ mk rfl HOW.out _ [255] rfl HL.out (by simp; omega) hsz ?_; intro v' w3 hown3 hgrow hat3; have B3 := hid (Below.grown (hbel.alloc hbel.size _) hgrow hsz (fun k hk => (HO.out.lt k hk).1)); have H3 := hid hown3; clear hown3 hgrow hat3)
              go_roundw
              case rel => exact ⟨k + 1, false, mk ++ [255], by omega, by go_num, rfl, H3.out, (by intro q hq; rcases List.mem_append.1 hq with hq | hq; exact HM.out q hq; simp at hq; omega), HA2.out, B3.out⟩
              case measure => simp [intOf]; omega
            · have HR := hid (K.at_last HAT.out hk32 HX.out HY.out (by omega))
              have hd : (256 - (x : Int)).tdiv 2 = (256 - (x : Int)) / 2 := Int.tdiv_eq_ediv_of_nonneg (by omega)
              by_cases h8 : 8 < (256 - (x : Int)) / 2
              · rw [show K.step (x : Int) 256 = 8 by unfold K.step; rw [if_pos rfl]; omega] at HR
                clear HAT HX HY
                have hl1 := Bs.lit wr 5 [(x : Int) + 8] (by simp [maxLen]) (by intro q hq; simp at hq; omega)
                have ho1 := HO.out.alloc (.cells #[.int .u8 ((x : Int) + 8)] 5)
                have hsz : w.heap.size ≤ (wr.alloc (.cells #[.int .u8 ((x : Int) + 8)] 5)).heap.size := by have := hbel.size; simp; omega
                have HL := hid hl1
                have HOW := hid ho1
                clear hl1 ho1
                go_wp2_with (at_builtin; refine wpList_append_bs rfl (.tmp 80) (.tmp 85) rfl w.heap.size _ _ mk rfl HOW.out _ [(x : Int) + 8] rfl HL.out (by simp; omega) hsz ?_; intro v' w3 hown3 hgrow hat3; have hcv := conv_str (Bs.of_own hown3 (by intro q hq; rcases List.mem_append.1 hq with hq | hq; exact HM.out q hq; simp at hq; omega)); have B3 := hid (Below.grown (hbel.alloc hbel.size _) hgrow hsz (fun k hk => (HO.out.lt k hk).1)); clear hown3 hgrow hat3)
                go_ret2
                rw [HR.out]
                exact ⟨rfl, B3.out⟩
              · obtain ⟨z, hz⟩ : ∃ z, (256 - (x : Int)) / 2 = z := ⟨_, rfl⟩
                rw [show K.step (x : Int) 256 = z by unfold K.step; rw [if_pos rfl]; omega] at HR
                have hzb : 1 ≤ z ∧ z ≤ 8 := by omega
                have hz2 : (x : Int) + z < 256 := by omega
                clear HAT HX HY
                have hl1 := Bs.lit wr 5 [(x : Int) + z] (by simp [maxLen]) (by intro q hq; simp at hq; omega)
                have ho1 := HO.out.alloc (.cells #[.int .u8 ((x : Int) + z)] 5)
                have hsz : w.heap.size ≤ (wr.alloc (.cells #[.int .u8 ((x : Int) + z)] 5)).heap.size := by have := hbel.size; simp; omega
                have HL := hid hl1
                have HOW := hid ho1
                clear hl1 ho1
                go_wp2_with (at_builtin; refine wpList_append_bs rfl (.tmp 80) (.tmp 85) rfl w.heap.size _ _ mk rfl HOW.out _ [(x : Int) + z] rfl HL.out (by simp; omega) hsz ?_; intro v' w3 hown3 hgrow hat3; have hcv := conv_str (Bs.of_own hown3 (by intro q hq; rcases List.mem_append.1 hq with hq | hq; exact HM.out q hq; simp at hq; omega)); have B3 := hid (Below.grown (hbel.alloc hbel.size _) hgrow hsz (fun k hk => (HO.out.lt k hk).1)); clear hown3 hgrow hat3)
                go_ret2
                rw [HR.out]
                exact ⟨rfl, B3.out⟩
      · have hX := tx_none (s := s) (k := k) (by omega) 0
        have h1' : decide (k < s.size) = false := by simp; omega
        have HX := hid hX
        clear hX
        cases tg
        · have hY : (((if false = true then tx t else []) : List Int).drop k).headD 256 = 256 := by simp
          have HY := hid hY
          clear hY
          have HR := hid (K.at_last HAT.out hk32 HX.out HY.out (by decide))
          rw [show (0 : Int) + K.step 0 256 = 8 by decide] at HR
          clear HAT HX HY
          have hl1 := Bs.lit wr 5 [8] (by simp [maxLen]) (by intro q hq; simp at hq; omega)
          have ho1 := HO.out.alloc (.cells #[.int .u8 (8)] 5)
          have hsz : w.heap.size ≤ (wr.alloc (.cells #[.int .u8 (8)] 5)).heap.size := by have := hbel.size; simp; omega
          have HL := hid hl1
          have HOW := hid ho1
          clear hl1 ho1
          go_wp2_with (at_builtin; refine wpList_append_bs rfl (.tmp 80) (.tmp 85) rfl w.heap.size _ _ mk rfl HOW.out _ [8] rfl HL.out (by simp; omega) hsz ?_; intro v' w3 hown3 hgrow hat3; have hcv := conv_str (Bs.of_own hown3 (by intro q hq; rcases List.mem_append.1 hq with hq | hq; exact HM.out q hq; simp at hq; omega)); have B3 := hid (Below.grown (hbel.alloc hbel.size _) hgrow hsz (fun k hk => (HO.out.lt k hk).1)); clear hown3 hgrow hat3)
          go_ret2
          rw [HR.out]
          exact ⟨rfl, B3.out⟩
        · by_cases h2 : k < t.size
          · have hY := tx_head h2 256
            obtain ⟨y, hy⟩ : ∃ y, (t[k]).toNat = y := ⟨_, rfl⟩
            have hyb : y < 256 := by rw [← hy]; exact (t[k]).toNat_lt
            rw [hy] at hY
            have h2' : (k : Int) < (t.size : Int) := by omega
            have HY := hid hY
            clear hY
            by_cases hlast : 1 < (y : Int)
            · have HR := hid (K.at_last HAT.out hk32 HX.out HY.out (by omega))
              have hd : ((y : Int)).tdiv 2 = (y : Int) / 2 := Int.tdiv_eq_ediv_of_nonneg (by omega)
              obtain ⟨z, hz⟩ : ∃ z, (y : Int) / 2 = z := ⟨_, rfl⟩
              have hyn : ((y : Int) == 256) = false := by simp; omega
              rw [show (0 : Int) + K.step (0 : Int) (y : Int) = z by unfold K.step; rw [if_neg (by omega)]; omega] at HR
              have hzb : 1 ≤ z ∧ z < 256 := by omega
              clear HAT HX HY
              have hl1 := Bs.lit wr 5 [z] (by simp [maxLen]) (by intro q hq; simp at hq; omega)
              have ho1 := HO.out.alloc (.cells #[.int .u8 (z)] 5)
              have hsz : w.heap.size ≤ (wr.alloc (.cells #[.int .u8 (z)] 5)).heap.size := by have := hbel.size; simp; omega
              have HL := hid hl1
              have HOW := hid ho1
              clear hl1 ho1
              go_wp2_with (at_builtin; refine wpList_append_bs rfl (.tmp 80) (.tmp 85) rfl w.heap.size _ _ mk rfl HOW.out _ [z] rfl HL.out (by simp; omega) hsz ?_; intro v' w3 hown3 hgrow hat3; have hcv := conv_str (Bs.of_own hown3 (by intro q hq; rcases List.mem_append.1 hq with hq | hq; exact HM.out q hq; simp at hq; omega)); have B3 := hid (Below.grown (hbel.alloc hbel.size _) hgrow hsz (fun k hk => (HO.out.lt k hk).1)); clear hown3 hgrow hat3)
              go_ret2
              rw [HR.out]
              exact ⟨rfl, B3.out⟩
            · by_cases hone : (y : Int) = 1
              · have HA2 := hid (K.at_one HAT.out hk32 HX.out HY.out (by omega))
                clear HAT HX HY
                have hone' : ((y : Int) == 1) = true := by simp [hone]
                have hl1 := Bs.lit wr 5 [0] (by simp [maxLen]) (by intro q hq; simp at hq; omega)
                have ho1 := HO.out.alloc (.cells #[.int .u8 (0)] 5)
                have hsz : w.heap.size ≤ (wr.alloc (.cells #[.int .u8 (0)] 5)).heap.size := by have := hbel.size; simp; omega
                have HL := hid hl1
                have HOW := hid ho1
                clear hl1 ho1
                go_wp2_with (at_builtin; refine wpList_append_bs rfl (.tmp 92) (.tmp 95) rfl w.heap.size _ _ mk rfl HOW.out _ [0] rfl HL.out (by simp; omega) hsz ?_; intro v' w3 hown3 hgrow hat3; have B3 := hid (Below.grown (hbel.alloc hbel.size _) hgrow hsz (fun k hk => (HO.out.lt k hk).1)); have H3 := hid hown3; clear hown3 hgrow hat3)
                go_roundw
                case rel => exact ⟨k + 1, false, mk ++ [0], by omega, by go_num, rfl, H3.out, (by intro q hq; rcases List.mem_append.1 hq with hq | hq; exact HM.out q hq; simp at hq; omega), HA2.out, B3.out⟩
                case measure => simp [intOf]; omega
              · have HA2 := hid (K.at_same HAT.out hk32 HX.out HY.out (by omega) (by omega))
                clear HAT HX HY
                have hone' : ((y : Int) == 1) = false := by simpa using hone
                have hl1 := Bs.lit wr 5 [0] (by simp [maxLen]) (by intro q hq; simp at hq; omega)
                have ho1 := HO.out.alloc (.cells #[.int .u8 (0)] 5)
                have hsz : w.heap.size ≤ (wr.alloc (.cells #[.int .u8 (0)] 5)).heap.size := by have := hbel.size; simp; omega
                have HL := hid hl1
                have HOW := hid ho1
                clear hl1 ho1
                go_wp2_with (at_builtin; refine wpList_append_bs rfl (.tmp 92) (.tmp 95) rfl w.heap.size _ _ mk rfl HOW.out _ [0] rfl HL.out (by simp; omega) hsz ?_; intro v' w3 hown3 hgrow hat3; have B3 := hid (Below.grown (hbel.alloc hbel.size _) hgrow hsz (fun k hk => (HO.out.lt k hk).1)); have H3 := hid hown3; clear hown3 hgrow hat3)
                go_roundw
                case rel => exact ⟨k + 1, true, mk ++ [0], by omega, by go_num, rfl, H3.out, (by intro q hq; rcases List.mem_append.1 hq with hq | hq; exact HM.out q hq; simp at hq; omega), HA2.out, B3.out⟩
                case measure => simp [intOf]; omega
          · have hY := tx_none (s := t) (k := k) (by omega) 256
            have h2' : decide (k < t.size) = false := by simp; omega
            have HY := hid hY
            clear hY
            have HR := hid (K.at_last HAT.out hk32 HX.out HY.out (by decide))
            rw [show (0 : Int) + K.step 0 256 = 8 by decide] at HR
            clear HAT HX HY
            have hl1 := Bs.lit wr 5 [8] (by simp [maxLen]) (by intro q hq; simp at hq; omega)
            have ho1 := HO.out.alloc (.cells #[.int .u8 (8)] 5)
            have hsz : w.heap.size ≤ (wr.alloc (.cells #[.int .u8 (8)] 5)).heap.size := by have := hbel.size; simp; omega
            have HL := hid hl1
            have HOW := hid ho1
            clear hl1 ho1
            go_wp2_with (at_builtin; refine wpList_append_bs rfl (.tmp 80) (.tmp 85) rfl w.heap.size _ _ mk rfl HOW.out _ [8] rfl HL.out (by simp; omega) hsz ?_; intro v' w3 hown3 hgrow hat3; have hcv := conv_str (Bs.of_own hown3 (by intro q hq; rcases List.mem_append.1 hq with hq | hq; exact HM.out q hq; simp at hq; omega)); have B3 := hid (Below.grown (hbel.alloc hbel.size _) hgrow hsz (fun k hk => (HO.out.lt k hk).1)); clear hown3 hgrow hat3)
            go_ret2
            rw [HR.out]
            exact ⟨rfl, B3.out⟩
    · obtain rfl : k = 32 := by omega
      have hR := K.at_end HAT.out
      subst hR
      clear HAT
      go_wp2
      go_ret2
      exact ⟨rfl, hbel⟩

set_option maxHeartbeats 8000000 in
set_option maxRecDepth 100000 in
theorem xbetween_10 (s t : ByteArray) (w : World) (hs : s.size ≤ 1099511627776) (ht : t.size ≤ 1099511627776)
    (e1 : tx s = []) (e2 : ¬ tx t = []) (hr2 : K.right (tx t) = true) :
    Calls Try.prog 9 #[.string s, .string t] w fun e w' => e = .returned (kv (K.btw 32 (tx s) (tx t))) ∧ Below w.heap.size w w' := by
  have HS := hid (fun W => xright_any s W hs)
  have HT := hid (fun W => xright_any t W ht)
  have HO := hid (fun W => texts_any s t W hs ht)
  have n1 := nil_tx s
  have n2 := nil_tx t
  obtain ⟨od, hod⟩ : ∃ od, K.ord (tx s) (tx t) = od := ⟨_, rfl⟩
  have ho := ord_geq_not (tx s) (tx t) _ rfl
  rw [hod] at HO ho
  clear hod
  rw [decide_eq_true e1] at n1
  rw [decide_eq_false e2] at n2
  rw [hr2] at HT
  obtain ⟨R, hR⟩ : ∃ R, K.btw 32 (tx s) (tx t) = R := ⟨_, rfl⟩
  have ha : K.At R (tx s) (if true = true then tx t else []) [] 0 := by
    rw [← hR]
    have := K.at_start (tx s) (tx t)
    simpa using this
  have HA := hid ha
  clear ha
  rw [hR]
  clear hR e1 e2
  go_enter Try.func9, Try.ntmps9
  go_wp2_with fail
  refine (HT.out _).mono ?_
  rintro e w' ⟨rfl, rfl⟩
  go_wp2
  have hown0 : (w.alloc (.cells #[] 5)).ownsRow w.heap.size 5 1 (.slice (some ⟨w.heap.size, 0, none⟩) 0 0) 0 (cs []) := World.ownsRow_made w #[] 0 (Nat.le_refl _) (Nat.zero_le _) rfl
  have hbel : Below w.heap.size w (w.alloc (.cells #[] 5)) := ba _ _
  go_loopw [6, 7, 8] (fun v tv i wr => ∃ (k : Nat) (tg : Bool) (mk : List Int), k ≤ 32 ∧ i = .int .i64 k ∧ tv = .bool tg ∧ wr.ownsRow w.heap.size 5 1 v k (cs mk) ∧ K.Byt mk ∧ K.At R (tx s) (if tg = true then tx t else []) mk k ∧ Below w.heap.size w wr) (fun _ _ i _ => 32 - (intOf i).toNat)
  case atStart => exact ⟨0, true, [], by omega, rfl, rfl, hown0, K.Byt.nil, HA.out, hbel⟩
  case round =>
    clear hown0 hbel HA
    obtain ⟨k, tg, mk, hk, rfl, rfl, hown, hbm, hat, hbel⟩ := hrel
    have HO := hid hown
    have HM := hid hbm
    have HAT := hid hat
    clear hown hbm hat
    by_cases hk32 : k < 32
    · by_cases h1 : k < s.size
      · have hX := tx_head h1 0
        obtain ⟨x, hx⟩ : ∃ x, (s[k]).toNat = x := ⟨_, rfl⟩
        have hxb : x < 256 := by rw [← hx]; exact (s[k]).toNat_lt
        rw [hx] at hX
        have h1' : (k : Int) < (s.size : Int) := by omega
        have HX := hid hX
        clear hX
        cases tg
        · have hY : (((if false = true then tx t else []) : List Int).drop k).headD 256 = 256 := by simp
          have HY := hid hY
          clear hY
          by_cases hlast : x = 255
          · subst hlast
            have HA2 := hid (K.at_one HAT.out hk32 HX.out HY.out (by omega))
            clear HAT HX HY

            have hl1 := Bs.lit wr 5 [255] (by simp [maxLen]) (by intro q hq; simp at hq; omega)
            have ho1 := HO.out.alloc (.cells #[.int .u8 (255)] 5)
            have hsz : w.heap.size ≤ (wr.alloc (.cells #[.int .u8 (255)] 5)).heap.size := by have := hbel.size; simp; omega
            have HL := hid hl1
            have HOW := hid ho1
            clear hl1 ho1
            go_wp2_with (at_builtin; refine wpList_append_bs rfl (.tmp 92) (.tmp 95) rfl w.heap.size _ _ mk rfl HOW.out _ [255] rfl HL.out (by simp; omega) hsz ?_; intro v' w3 hown3 hgrow hat3; have B3 := hid (Below.grown (hbel.alloc hbel.size _) hgrow hsz (fun k hk => (HO.out.lt k hk).1)); have H3 := hid hown3; clear hown3 hgrow hat3)
            go_roundw
            case rel => exact ⟨k + 1, false, mk ++ [255], by omega, by go_num, rfl, H3.out, (by intro q hq; rcases List.mem_append.1 hq with hq | hq; exact HM.out q hq; simp at hq; omega), HA2.out, B3.out⟩
            case measure => simp [intOf]; omega
          · have HR := hid (K.at_last HAT.out hk32 HX.out HY.out (by omega))
            have hd : (256 - (x : Int)).tdiv 2 = (256 - (x : Int)) / 2 := Int.tdiv_eq_ediv_of_nonneg (by omega)
            by_cases h8 : 8 < (256 - (x : Int)) / 2
            · rw [show K.step (x : Int) 256 = 8 by unfold K.step; rw [if_pos rfl]; omega] at HR
              clear HAT HX HY
              have hl1 := Bs.lit wr 5 [(x : Int) + 8] (by simp [maxLen]) (by intro q hq; simp at hq; omega)
              have ho1 := HO.out.alloc (.cells #[.int .u8 ((x : Int) + 8)] 5)
              have hsz : w.heap.size ≤ (wr.alloc (.cells #[.int .u8 ((x : Int) + 8)] 5)).heap.size := by have := hbel.size; simp; omega
              have HL := hid hl1
              have HOW := hid ho1
              clear hl1 ho1
              go_wp2_with (at_builtin; refine wpList_append_bs rfl (.tmp 80) (.tmp 85) rfl w.heap.size _ _ mk rfl HOW.out _ [(x : Int) + 8] rfl HL.out (by simp; omega) hsz ?_; intro v' w3 hown3 hgrow hat3; have hcv := conv_str (Bs.of_own hown3 (by intro q hq; rcases List.mem_append.1 hq with hq | hq; exact HM.out q hq; simp at hq; omega)); have B3 := hid (Below.grown (hbel.alloc hbel.size _) hgrow hsz (fun k hk => (HO.out.lt k hk).1)); clear hown3 hgrow hat3)
              go_ret2
              rw [HR.out]
              exact ⟨rfl, B3.out⟩
            · obtain ⟨z, hz⟩ : ∃ z, (256 - (x : Int)) / 2 = z := ⟨_, rfl⟩
              rw [show K.step (x : Int) 256 = z by unfold K.step; rw [if_pos rfl]; omega] at HR
              have hzb : 1 ≤ z ∧ z ≤ 8 := by omega
              have hz2 : (x : Int) + z < 256 := by omega
              clear HAT HX HY
              have hl1 := Bs.lit wr 5 [(x : Int) + z] (by simp [maxLen]) (by intro q hq; simp at hq; omega)
              have ho1 := HO.out.alloc (.cells #[.int .u8 ((x : Int) + z)] 5)
              have hsz : w.heap.size ≤ (wr.alloc (.cells #[.int .u8 ((x : Int) + z)] 5)).heap.size := by have := hbel.size; simp; omega
              have HL := hid hl1
              have HOW := hid ho1
              clear hl1 ho1
              go_wp2_with (at_builtin; refine wpList_append_bs rfl (.tmp 80) (.tmp 85) rfl w.heap.size _ _ mk rfl HOW.out _ [(x : Int) + z] rfl HL.out (by simp; omega) hsz ?_; intro v' w3 hown3 hgrow hat3; have hcv := conv_str (Bs.of_own hown3 (by intro q hq; rcases List.mem_append.1 hq with hq | hq; exact HM.out q hq; simp at hq; omega)); have B3 := hid (Below.grown (hbel.alloc hbel.size _) hgrow hsz (fun k hk => (HO.out.lt k hk).1)); clear hown3 hgrow hat3)
              go_ret2
              rw [HR.out]
              exact ⟨rfl, B3.out⟩
        · by_cases h2 : k < t.size
          · have hY := tx_head h2 256
            obtain ⟨y, hy⟩ : ∃ y, (t[k]).toNat = y := ⟨_, rfl⟩
            have hyb : y < 256 := by rw [← hy]; exact (t[k]).toNat_lt
            rw [hy] at hY
            have h2' : (k : Int) < (t.size : Int) := by omega
            have HY := hid hY
            clear hY
            by_cases hlast : (x : Int) + 1 < (y : Int)
            · have HR := hid (K.at_last HAT.out hk32 HX.out HY.out (by omega))
              have hd : (((y : Int) - (x : Int))).tdiv 2 = ((y : Int) - (x : Int)) / 2 := Int.tdiv_eq_ediv_of_nonneg (by omega)
              obtain ⟨z, hz⟩ : ∃ z, ((y : Int) - (x : Int)) / 2 = z := ⟨_, rfl⟩
              have hyn : ((y : Int) == 256) = false := by simp; omega
              rw [show (x : Int) + K.step (x : Int) (y : Int) = (x : Int) + z by unfold K.step; rw [if_neg (by omega)]; omega] at HR
              have hzb : 1 ≤ z ∧ (x : Int) + z < 256 := by omega
              clear HAT HX HY
              have hl1 := Bs.lit wr 5 [(x : Int) + z] (by simp [maxLen]) (by intro q hq; simp at hq; omega)
              have ho1 := HO.out.alloc (.cells #[.int .u8 ((x : Int) + z)] 5)
              have hsz : w.heap.size ≤ (wr.alloc (.cells #[.int .u8 ((x : Int) + z)] 5)).heap.size := by have := hbel.size; simp; omega
              have HL := hid hl1
              have HOW := hid ho1
              clear hl1 ho1
              go_wp2_with (at_builtin; refine wpList_append_bs rfl (.tmp 80) (.tmp 85) rfl w.heap.size _ _ mk rfl HOW.out _ [(x : Int) + z] rfl HL.out (by simp; omega) hsz ?_; intro v' w3 hown3 hgrow hat3; have hcv := conv_str (Bs.of_own hown3 (by intro q hq; rcases List.mem_append.1 hq with hq | hq; exact HM.out q hq; simp at hq; omega)); have B3 := hid (Below.grown (hbel.alloc hbel.size _) hgrow hsz (fun k hk => (HO.out.lt k hk).1)); clear hown3 hgrow hat3)
              go_ret2
              rw [HR.out]
              exact ⟨rfl, B3.out⟩
            · by_cases hone : (y : Int) = (x : Int) + 1
              · have HA2 := hid (K.at_one HAT.out hk32 HX.out HY.out (by omega))
                clear HAT HX HY
                have hone' : ((y : Int) == (x : Int) + 1) = true := by simp [hone]
                have hl1 := Bs.lit wr 5 [(x : Int)] (by simp [maxLen]) (by intro q hq; simp at hq; omega)
                have ho1 := HO.out.alloc (.cells #[.int .u8 ((x : Int))] 5)
                have hsz : w.heap.size ≤ (wr.alloc (.cells #[.int .u8 ((x : Int))] 5)).heap.size := by have := hbel.size; simp; omega
                have HL := hid hl1
                have HOW := hid ho1
                clear hl1 ho1
                go_wp2_with (at_builtin; refine wpList_append_bs rfl (.tmp 92) (.tmp 95) rfl w.heap.size _ _ mk rfl HOW.out _ [(x : Int)] rfl HL.out (by simp; omega) hsz ?_; intro v' w3 hown3 hgrow hat3; have B3 := hid (Below.grown (hbel.alloc hbel.size _) hgrow hsz (fun k hk => (HO.out.lt k hk).1)); have H3 := hid hown3; clear hown3 hgrow hat3)
                go_roundw
                case rel => exact ⟨k + 1, false, mk ++ [(x : Int)], by omega, by go_num, rfl, H3.out, (by intro q hq; rcases List.mem_append.1 hq with hq | hq; exact HM.out q hq; simp at hq; omega), HA2.out, B3.out⟩
                case measure => simp [intOf]; omega
              · have HA2 := hid (K.at_same HAT.out hk32 HX.out HY.out (by omega) (by omega))
                clear HAT HX HY
                have hone' : ((y : Int) == (x : Int) + 1) = false := by simpa using hone
                have hl1 := Bs.lit wr 5 [(x : Int)] (by simp [maxLen]) (by intro q hq; simp at hq; omega)
                have ho1 := HO.out.alloc (.cells #[.int .u8 ((x : Int))] 5)
                have hsz : w.heap.size ≤ (wr.alloc (.cells #[.int .u8 ((x : Int))] 5)).heap.size := by have := hbel.size; simp; omega
                have HL := hid hl1
                have HOW := hid ho1
                clear hl1 ho1
                go_wp2_with (at_builtin; refine wpList_append_bs rfl (.tmp 92) (.tmp 95) rfl w.heap.size _ _ mk rfl HOW.out _ [(x : Int)] rfl HL.out (by simp; omega) hsz ?_; intro v' w3 hown3 hgrow hat3; have B3 := hid (Below.grown (hbel.alloc hbel.size _) hgrow hsz (fun k hk => (HO.out.lt k hk).1)); have H3 := hid hown3; clear hown3 hgrow hat3)
                go_roundw
                case rel => exact ⟨k + 1, true, mk ++ [(x : Int)], by omega, by go_num, rfl, H3.out, (by intro q hq; rcases List.mem_append.1 hq with hq | hq; exact HM.out q hq; simp at hq; omega), HA2.out, B3.out⟩
                case measure => simp [intOf]; omega
          · have hY := tx_none (s := t) (k := k) (by omega) 256
            have h2' : decide (k < t.size) = false := by simp; omega
            have HY := hid hY
            clear hY
            by_cases hlast : x = 255
            · subst hlast
              have HA2 := hid (K.at_one HAT.out hk32 HX.out HY.out (by omega))
              clear HAT HX HY

              have hl1 := Bs.lit wr 5 [255] (by simp [maxLen]) (by intro q hq; simp at hq; omega)
              have ho1 := HO.out.alloc (.cells #[.int .u8 (255)] 5)
              have hsz : w.heap.size ≤ (wr.alloc (.cells #[.int .u8 (255)] 5)).heap.size := by have := hbel.size; simp; omega
              have HL := hid hl1
              have HOW := hid ho1
              clear hl1 ho1
              go_wp2_with (at_builtin; refine wpList_append_bs rfl (.tmp 92) (.tmp 95) rfl w.heap.size _ _ mk rfl HOW.out _ [255] rfl HL.out (by simp; omega) hsz ?_; intro v' w3 hown3 hgrow hat3; have B3 := hid (Below.grown (hbel.alloc hbel.size _) hgrow hsz (fun k hk => (HO.out.lt k hk).1)); have H3 := hid hown3; clear hown3 hgrow hat3)
              go_roundw
              case rel => exact ⟨k + 1, false, mk ++ [255], by omega, by go_num, rfl, H3.out, (by intro q hq; rcases List.mem_append.1 hq with hq | hq; exact HM.out q hq; simp at hq; omega), HA2.out, B3.out⟩
              case measure => simp [intOf]; omega
            · have HR := hid (K.at_last HAT.out hk32 HX.out HY.out (by omega))
              have hd : (256 - (x : Int)).tdiv 2 = (256 - (x : Int)) / 2 := Int.tdiv_eq_ediv_of_nonneg (by omega)
              by_cases h8 : 8 < (256 - (x : Int)) / 2
              · rw [show K.step (x : Int) 256 = 8 by unfold K.step; rw [if_pos rfl]; omega] at HR
                clear HAT HX HY
                have hl1 := Bs.lit wr 5 [(x : Int) + 8] (by simp [maxLen]) (by intro q hq; simp at hq; omega)
                have ho1 := HO.out.alloc (.cells #[.int .u8 ((x : Int) + 8)] 5)
                have hsz : w.heap.size ≤ (wr.alloc (.cells #[.int .u8 ((x : Int) + 8)] 5)).heap.size := by have := hbel.size; simp; omega
                have HL := hid hl1
                have HOW := hid ho1
                clear hl1 ho1
                go_wp2_with (at_builtin; refine wpList_append_bs rfl (.tmp 80) (.tmp 85) rfl w.heap.size _ _ mk rfl HOW.out _ [(x : Int) + 8] rfl HL.out (by simp; omega) hsz ?_; intro v' w3 hown3 hgrow hat3; have hcv := conv_str (Bs.of_own hown3 (by intro q hq; rcases List.mem_append.1 hq with hq | hq; exact HM.out q hq; simp at hq; omega)); have B3 := hid (Below.grown (hbel.alloc hbel.size _) hgrow hsz (fun k hk => (HO.out.lt k hk).1)); clear hown3 hgrow hat3)
                go_ret2
                rw [HR.out]
                exact ⟨rfl, B3.out⟩
              · obtain ⟨z, hz⟩ : ∃ z, (256 - (x : Int)) / 2 = z := ⟨_, rfl⟩
                rw [show K.step (x : Int) 256 = z by unfold K.step; rw [if_pos rfl]; omega] at HR
                have hzb : 1 ≤ z ∧ z ≤ 8 := by omega
                have hz2 : (x : Int) + z < 256 := by omega
                clear HAT HX HY
                have hl1 := Bs.lit wr 5 [(x : Int) + z] (by simp [maxLen]) (by intro q hq; simp at hq; omega)
                have ho1 := HO.out.alloc (.cells #[.int .u8 ((x : Int) + z)] 5)
                have hsz : w.heap.size ≤ (wr.alloc (.cells #[.int .u8 ((x : Int) + z)] 5)).heap.size := by have := hbel.size; simp; omega
                have HL := hid hl1
                have HOW := hid ho1
                clear hl1 ho1
                go_wp2_with (at_builtin; refine wpList_append_bs rfl (.tmp 80) (.tmp 85) rfl w.heap.size _ _ mk rfl HOW.out _ [(x : Int) + z] rfl HL.out (by simp; omega) hsz ?_; intro v' w3 hown3 hgrow hat3; have hcv := conv_str (Bs.of_own hown3 (by intro q hq; rcases List.mem_append.1 hq with hq | hq; exact HM.out q hq; simp at hq; omega)); have B3 := hid (Below.grown (hbel.alloc hbel.size _) hgrow hsz (fun k hk => (HO.out.lt k hk).1)); clear hown3 hgrow hat3)
                go_ret2
                rw [HR.out]
                exact ⟨rfl, B3.out⟩
      · have hX := tx_none (s := s) (k := k) (by omega) 0
        have h1' : decide (k < s.size) = false := by simp; omega
        have HX := hid hX
        clear hX
        cases tg
        · have hY : (((if false = true then tx t else []) : List Int).drop k).headD 256 = 256 := by simp
          have HY := hid hY
          clear hY
          have HR := hid (K.at_last HAT.out hk32 HX.out HY.out (by decide))
          rw [show (0 : Int) + K.step 0 256 = 8 by decide] at HR
          clear HAT HX HY
          have hl1 := Bs.lit wr 5 [8] (by simp [maxLen]) (by intro q hq; simp at hq; omega)
          have ho1 := HO.out.alloc (.cells #[.int .u8 (8)] 5)
          have hsz : w.heap.size ≤ (wr.alloc (.cells #[.int .u8 (8)] 5)).heap.size := by have := hbel.size; simp; omega
          have HL := hid hl1
          have HOW := hid ho1
          clear hl1 ho1
          go_wp2_with (at_builtin; refine wpList_append_bs rfl (.tmp 80) (.tmp 85) rfl w.heap.size _ _ mk rfl HOW.out _ [8] rfl HL.out (by simp; omega) hsz ?_; intro v' w3 hown3 hgrow hat3; have hcv := conv_str (Bs.of_own hown3 (by intro q hq; rcases List.mem_append.1 hq with hq | hq; exact HM.out q hq; simp at hq; omega)); have B3 := hid (Below.grown (hbel.alloc hbel.size _) hgrow hsz (fun k hk => (HO.out.lt k hk).1)); clear hown3 hgrow hat3)
          go_ret2
          rw [HR.out]
          exact ⟨rfl, B3.out⟩
        · by_cases h2 : k < t.size
          · have hY := tx_head h2 256
            obtain ⟨y, hy⟩ : ∃ y, (t[k]).toNat = y := ⟨_, rfl⟩
            have hyb : y < 256 := by rw [← hy]; exact (t[k]).toNat_lt
            rw [hy] at hY
            have h2' : (k : Int) < (t.size : Int) := by omega
            have HY := hid hY
            clear hY
            by_cases hlast : 1 < (y : Int)
            · have HR := hid (K.at_last HAT.out hk32 HX.out HY.out (by omega))
              have hd : ((y : Int)).tdiv 2 = (y : Int) / 2 := Int.tdiv_eq_ediv_of_nonneg (by omega)
              obtain ⟨z, hz⟩ : ∃ z, (y : Int) / 2 = z := ⟨_, rfl⟩
              have hyn : ((y : Int) == 256) = false := by simp; omega
              rw [show (0 : Int) + K.step (0 : Int) (y : Int) = z by unfold K.step; rw [if_neg (by omega)]; omega] at HR
              have hzb : 1 ≤ z ∧ z < 256 := by omega
              clear HAT HX HY
              have hl1 := Bs.lit wr 5 [z] (by simp [maxLen]) (by intro q hq; simp at hq; omega)
              have ho1 := HO.out.alloc (.cells #[.int .u8 (z)] 5)
              have hsz : w.heap.size ≤ (wr.alloc (.cells #[.int .u8 (z)] 5)).heap.size := by have := hbel.size; simp; omega
              have HL := hid hl1
              have HOW := hid ho1
              clear hl1 ho1
              go_wp2_with (at_builtin; refine wpList_append_bs rfl (.tmp 80) (.tmp 85) rfl w.heap.size _ _ mk rfl HOW.out _ [z] rfl HL.out (by simp; omega) hsz ?_; intro v' w3 hown3 hgrow hat3; have hcv := conv_str (Bs.of_own hown3 (by intro q hq; rcases List.mem_append.1 hq with hq | hq; exact HM.out q hq; simp at hq; omega)); have B3 := hid (Below.grown (hbel.alloc hbel.size _) hgrow hsz (fun k hk => (HO.out.lt k hk).1)); clear hown3 hgrow hat3)
              go_ret2
              rw [HR.out]
              exact ⟨rfl, B3.out⟩
            · by_cases hone : (y : Int) = 1
              · have HA2 := hid (K.at_one HAT.out hk32 HX.out HY.out (by omega))
                clear HAT HX HY
                have hone' : ((y : Int) == 1) = true := by simp [hone]
                have hl1 := Bs.lit wr 5 [0] (by simp [maxLen]) (by intro q hq; simp at hq; omega)
                have ho1 := HO.out.alloc (.cells #[.int .u8 (0)] 5)
                have hsz : w.heap.size ≤ (wr.alloc (.cells #[.int .u8 (0)] 5)).heap.size := by have := hbel.size; simp; omega
                have HL := hid hl1
                have HOW := hid ho1
                clear hl1 ho1
                go_wp2_with (at_builtin; refine wpList_append_bs rfl (.tmp 92) (.tmp 95) rfl w.heap.size _ _ mk rfl HOW.out _ [0] rfl HL.out (by simp; omega) hsz ?_; intro v' w3 hown3 hgrow hat3; have B3 := hid (Below.grown (hbel.alloc hbel.size _) hgrow hsz (fun k hk => (HO.out.lt k hk).1)); have H3 := hid hown3; clear hown3 hgrow hat3)
                go_roundw
                case rel => exact ⟨k + 1, false, mk ++ [0], by omega, by go_num, rfl, H3.out, (by intro q hq; rcases List.mem_append.1 hq with hq | hq; exact HM.out q hq; simp at hq; omega), HA2.out, B3.out⟩
                case measure => simp [intOf]; omega
              · have HA2 := hid (K.at_same HAT.out hk32 HX.out HY.out (by omega) (by omega))
                clear HAT HX HY
                have hone' : ((y : Int) == 1) = false := by simpa using hone
                have hl1 := Bs.lit wr 5 [0] (by simp [maxLen]) (by intro q hq; simp at hq; omega)
                have ho1 := HO.out.alloc (.cells #[.int .u8 (0)] 5)
                have hsz : w.heap.size ≤ (wr.alloc (.cells #[.int .u8 (0)] 5)).heap.size := by have := hbel.size; simp; omega
                have HL := hid hl1
                have HOW := hid ho1
                clear hl1 ho1
                go_wp2_with (at_builtin; refine wpList_append_bs rfl (.tmp 92) (.tmp 95) rfl w.heap.size _ _ mk rfl HOW.out _ [0] rfl HL.out (by simp; omega) hsz ?_; intro v' w3 hown3 hgrow hat3; have B3 := hid (Below.grown (hbel.alloc hbel.size _) hgrow hsz (fun k hk => (HO.out.lt k hk).1)); have H3 := hid hown3; clear hown3 hgrow hat3)
                go_roundw
                case rel => exact ⟨k + 1, true, mk ++ [0], by omega, by go_num, rfl, H3.out, (by intro q hq; rcases List.mem_append.1 hq with hq | hq; exact HM.out q hq; simp at hq; omega), HA2.out, B3.out⟩
                case measure => simp [intOf]; omega
          · have hY := tx_none (s := t) (k := k) (by omega) 256
            have h2' : decide (k < t.size) = false := by simp; omega
            have HY := hid hY
            clear hY
            have HR := hid (K.at_last HAT.out hk32 HX.out HY.out (by decide))
            rw [show (0 : Int) + K.step 0 256 = 8 by decide] at HR
            clear HAT HX HY
            have hl1 := Bs.lit wr 5 [8] (by simp [maxLen]) (by intro q hq; simp at hq; omega)
            have ho1 := HO.out.alloc (.cells #[.int .u8 (8)] 5)
            have hsz : w.heap.size ≤ (wr.alloc (.cells #[.int .u8 (8)] 5)).heap.size := by have := hbel.size; simp; omega
            have HL := hid hl1
            have HOW := hid ho1
            clear hl1 ho1
            go_wp2_with (at_builtin; refine wpList_append_bs rfl (.tmp 80) (.tmp 85) rfl w.heap.size _ _ mk rfl HOW.out _ [8] rfl HL.out (by simp; omega) hsz ?_; intro v' w3 hown3 hgrow hat3; have hcv := conv_str (Bs.of_own hown3 (by intro q hq; rcases List.mem_append.1 hq with hq | hq; exact HM.out q hq; simp at hq; omega)); have B3 := hid (Below.grown (hbel.alloc hbel.size _) hgrow hsz (fun k hk => (HO.out.lt k hk).1)); clear hown3 hgrow hat3)
            go_ret2
            rw [HR.out]
            exact ⟨rfl, B3.out⟩
    · obtain rfl : k = 32 := by omega
      have hR := K.at_end HAT.out
      subst hR
      clear HAT
      go_wp2
      go_ret2
      exact ⟨rfl, hbel⟩

set_option maxHeartbeats 8000000 in
set_option maxRecDepth 100000 in
theorem xbetween_11 (s t : ByteArray) (w : World) (hs : s.size ≤ 1099511627776) (ht : t.size ≤ 1099511627776)
    (e1 : tx s = []) (e2 : tx t = []) :
    Calls Try.prog 9 #[.string s, .string t] w fun e w' => e = .returned (kv (K.btw 32 (tx s) (tx t))) ∧ Below w.heap.size w w' := by
  have HS := hid (fun W => xright_any s W hs)
  have HT := hid (fun W => xright_any t W ht)
  have HO := hid (fun W => texts_any s t W hs ht)
  have n1 := nil_tx s
  have n2 := nil_tx t
  obtain ⟨od, hod⟩ : ∃ od, K.ord (tx s) (tx t) = od := ⟨_, rfl⟩
  have ho := ord_geq_not (tx s) (tx t) _ rfl
  rw [hod] at HO ho
  clear hod
  rw [decide_eq_true e1] at n1
  rw [decide_eq_true e2] at n2
  obtain ⟨R, hR⟩ : ∃ R, K.btw 32 (tx s) (tx t) = R := ⟨_, rfl⟩
  have ha : K.At R (tx s) (if false = true then tx t else []) [] 0 := by
    rw [← hR]
    have := K.at_start (tx s) (tx t)
    simpa [e2] using this
  have HA := hid ha
  clear ha
  rw [hR]
  clear hR e1 e2
  go_enter Try.func9, Try.ntmps9
  go_wp2
  have hown0 : (w.alloc (.cells #[] 5)).ownsRow w.heap.size 5 1 (.slice (some ⟨w.heap.size, 0, none⟩) 0 0) 0 (cs []) := World.ownsRow_made w #[] 0 (Nat.le_refl _) (Nat.zero_le _) rfl
  have hbel : Below w.heap.size w (w.alloc (.cells #[] 5)) := ba _ _
  go_loopw [6, 7, 8] (fun v tv i wr => ∃ (k : Nat) (tg : Bool) (mk : List Int), k ≤ 32 ∧ i = .int .i64 k ∧ tv = .bool tg ∧ wr.ownsRow w.heap.size 5 1 v k (cs mk) ∧ K.Byt mk ∧ K.At R (tx s) (if tg = true then tx t else []) mk k ∧ Below w.heap.size w wr) (fun _ _ i _ => 32 - (intOf i).toNat)
  case atStart => exact ⟨0, false, [], by omega, rfl, rfl, hown0, K.Byt.nil, HA.out, hbel⟩
  case round =>
    clear hown0 hbel HA
    obtain ⟨k, tg, mk, hk, rfl, rfl, hown, hbm, hat, hbel⟩ := hrel
    have HO := hid hown
    have HM := hid hbm
    have HAT := hid hat
    clear hown hbm hat
    by_cases hk32 : k < 32
    · by_cases h1 : k < s.size
      · have hX := tx_head h1 0
        obtain ⟨x, hx⟩ : ∃ x, (s[k]).toNat = x := ⟨_, rfl⟩
        have hxb : x < 256 := by rw [← hx]; exact (s[k]).toNat_lt
        rw [hx] at hX
        have h1' : (k : Int) < (s.size : Int) := by omega
        have HX := hid hX
        clear hX
        cases tg
        · have hY : (((if false = true then tx t else []) : List Int).drop k).headD 256 = 256 := by simp
          have HY := hid hY
          clear hY
          by_cases hlast : x = 255
          · subst hlast
            have HA2 := hid (K.at_one HAT.out hk32 HX.out HY.out (by omega))
            clear HAT HX HY

            have hl1 := Bs.lit wr 5 [255] (by simp [maxLen]) (by intro q hq; simp at hq; omega)
            have ho1 := HO.out.alloc (.cells #[.int .u8 (255)] 5)
            have hsz : w.heap.size ≤ (wr.alloc (.cells #[.int .u8 (255)] 5)).heap.size := by have := hbel.size; simp; omega
            have HL := hid hl1
            have HOW := hid ho1
            clear hl1 ho1
            go_wp2_with (at_builtin; refine wpList_append_bs rfl (.tmp 92) (.tmp 95) rfl w.heap.size _ _ mk rfl HOW.out _ [255] rfl HL.out (by simp; omega) hsz ?_; intro v' w3 hown3 hgrow hat3; have B3 := hid (Below.grown (hbel.alloc hbel.size _) hgrow hsz (fun k hk => (HO.out.lt k hk).1)); have H3 := hid hown3; clear hown3 hgrow hat3)
            go_roundw
            case rel => exact ⟨k + 1, false, mk ++ [255], by omega, by go_num, rfl, H3.out, (by intro q hq; rcases List.mem_append.1 hq with hq | hq; exact HM.out q hq; simp at hq; omega), HA2.out, B3.out⟩
            case measure => simp [intOf]; omega
          · have HR := hid (K.at_last HAT.out hk32 HX.out HY.out (by omega))
            have hd : (256 - (x : Int)).tdiv 2 = (256 - (x : Int)) / 2 := Int.tdiv_eq_ediv_of_nonneg (by omega)
            by_cases h8 : 8 < (256 - (x : Int)) / 2
            · rw [show K.step (x : Int) 256 = 8 by unfold K.step; rw [if_pos rfl]; omega] at HR
              clear HAT HX HY
              have hl1 := Bs.lit wr 5 [(x : Int) + 8] (by simp [maxLen]) (by intro q hq; simp at hq; omega)
              have ho1 := HO.out.alloc (.cells #[.int .u8 ((x : Int) + 8)] 5)
              have hsz : w.heap.size ≤ (wr.alloc (.cells #[.int .u8 ((x : Int) + 8)] 5)).heap.size := by have := hbel.size; simp; omega
              have HL := hid hl1
              have HOW := hid ho1
              clear hl1 ho1
              go_wp2_with (at_builtin; refine wpList_append_bs rfl (.tmp 80) (.tmp 85) rfl w.heap.size _ _ mk rfl HOW.out _ [(x : Int) + 8] rfl HL.out (by simp; omega) hsz ?_; intro v' w3 hown3 hgrow hat3; have hcv := conv_str (Bs.of_own hown3 (by intro q hq; rcases List.mem_append.1 hq with hq | hq; exact HM.out q hq; simp at hq; omega)); have B3 := hid (Below.grown (hbel.alloc hbel.size _) hgrow hsz (fun k hk => (HO.out.lt k hk).1)); clear hown3 hgrow hat3)
              go_ret2
              rw [HR.out]
              exact ⟨rfl, B3.out⟩
            · obtain ⟨z, hz⟩ : ∃ z, (256 - (x : Int)) / 2 = z := ⟨_, rfl⟩
              rw [show K.step (x : Int) 256 = z by unfold K.step; rw [if_pos rfl]; omega] at HR
              have hzb : 1 ≤ z ∧ z ≤ 8 := by omega
              have hz2 : (x : Int) + z < 256 := by omega
              clear HAT HX HY
              have hl1 := Bs.lit wr 5 [(x : Int) + z] (by simp [maxLen]) (by intro q hq; simp at hq; omega)
              have ho1 := HO.out.alloc (.cells #[.int .u8 ((x : Int) + z)] 5)
              have hsz : w.heap.size ≤ (wr.alloc (.cells #[.int .u8 ((x : Int) + z)] 5)).heap.size := by have := hbel.size; simp; omega
              have HL := hid hl1
              have HOW := hid ho1
              clear hl1 ho1
              go_wp2_with (at_builtin; refine wpList_append_bs rfl (.tmp 80) (.tmp 85) rfl w.heap.size _ _ mk rfl HOW.out _ [(x : Int) + z] rfl HL.out (by simp; omega) hsz ?_; intro v' w3 hown3 hgrow hat3; have hcv := conv_str (Bs.of_own hown3 (by intro q hq; rcases List.mem_append.1 hq with hq | hq; exact HM.out q hq; simp at hq; omega)); have B3 := hid (Below.grown (hbel.alloc hbel.size _) hgrow hsz (fun k hk => (HO.out.lt k hk).1)); clear hown3 hgrow hat3)
              go_ret2
              rw [HR.out]
              exact ⟨rfl, B3.out⟩
        · by_cases h2 : k < t.size
          · have hY := tx_head h2 256
            obtain ⟨y, hy⟩ : ∃ y, (t[k]).toNat = y := ⟨_, rfl⟩
            have hyb : y < 256 := by rw [← hy]; exact (t[k]).toNat_lt
            rw [hy] at hY
            have h2' : (k : Int) < (t.size : Int) := by omega
            have HY := hid hY
            clear hY
            by_cases hlast : (x : Int) + 1 < (y : Int)
            · have HR := hid (K.at_last HAT.out hk32 HX.out HY.out (by omega))
              have hd : (((y : Int) - (x : Int))).tdiv 2 = ((y : Int) - (x : Int)) / 2 := Int.tdiv_eq_ediv_of_nonneg (by omega)
              obtain ⟨z, hz⟩ : ∃ z, ((y : Int) - (x : Int)) / 2 = z := ⟨_, rfl⟩
              have hyn : ((y : Int) == 256) = false := by simp; omega
              rw [show (x : Int) + K.step (x : Int) (y : Int) = (x : Int) + z by unfold K.step; rw [if_neg (by omega)]; omega] at HR
              have hzb : 1 ≤ z ∧ (x : Int) + z < 256 := by omega
              clear HAT HX HY
              have hl1 := Bs.lit wr 5 [(x : Int) + z] (by simp [maxLen]) (by intro q hq; simp at hq; omega)
              have ho1 := HO.out.alloc (.cells #[.int .u8 ((x : Int) + z)] 5)
              have hsz : w.heap.size ≤ (wr.alloc (.cells #[.int .u8 ((x : Int) + z)] 5)).heap.size := by have := hbel.size; simp; omega
              have HL := hid hl1
              have HOW := hid ho1
              clear hl1 ho1
              go_wp2_with (at_builtin; refine wpList_append_bs rfl (.tmp 80) (.tmp 85) rfl w.heap.size _ _ mk rfl HOW.out _ [(x : Int) + z] rfl HL.out (by simp; omega) hsz ?_; intro v' w3 hown3 hgrow hat3; have hcv := conv_str (Bs.of_own hown3 (by intro q hq; rcases List.mem_append.1 hq with hq | hq; exact HM.out q hq; simp at hq; omega)); have B3 := hid (Below.grown (hbel.alloc hbel.size _) hgrow hsz (fun k hk => (HO.out.lt k hk).1)); clear hown3 hgrow hat3)
              go_ret2
              rw [HR.out]
              exact ⟨rfl, B3.out⟩
            · by_cases hone : (y : Int) = (x : Int) + 1
              · have HA2 := hid (K.at_one HAT.out hk32 HX.out HY.out (by omega))
                clear HAT HX HY
                have hone' : ((y : Int) == (x : Int) + 1) = true := by simp [hone]
                have hl1 := Bs.lit wr 5 [(x : Int)] (by simp [maxLen]) (by intro q hq; simp at hq; omega)
                have ho1 := HO.out.alloc (.cells #[.int .u8 ((x : Int))] 5)
                have hsz : w.heap.size ≤ (wr.alloc (.cells #[.int .u8 ((x : Int))] 5)).heap.size := by have := hbel.size; simp; omega
                have HL := hid hl1
                have HOW := hid ho1
                clear hl1 ho1
                go_wp2_with (at_builtin; refine wpList_append_bs rfl (.tmp 92) (.tmp 95) rfl w.heap.size _ _ mk rfl HOW.out _ [(x : Int)] rfl HL.out (by simp; omega) hsz ?_; intro v' w3 hown3 hgrow hat3; have B3 := hid (Below.grown (hbel.alloc hbel.size _) hgrow hsz (fun k hk => (HO.out.lt k hk).1)); have H3 := hid hown3; clear hown3 hgrow hat3)
                go_roundw
                case rel => exact ⟨k + 1, false, mk ++ [(x : Int)], by omega, by go_num, rfl, H3.out, (by intro q hq; rcases List.mem_append.1 hq with hq | hq; exact HM.out q hq; simp at hq; omega), HA2.out, B3.out⟩
                case measure => simp [intOf]; omega
              · have HA2 := hid (K.at_same HAT.out hk32 HX.out HY.out (by omega) (by omega))
                clear HAT HX HY
                have hone' : ((y : Int) == (x : Int) + 1) = false := by simpa using hone
                have hl1 := Bs.lit wr 5 [(x : Int)] (by simp [maxLen]) (by intro q hq; simp at hq; omega)
                have ho1 := HO.out.alloc (.cells #[.int .u8 ((x : Int))] 5)
                have hsz : w.heap.size ≤ (wr.alloc (.cells #[.int .u8 ((x : Int))] 5)).heap.size := by have := hbel.size; simp; omega
                have HL := hid hl1
                have HOW := hid ho1
                clear hl1 ho1
                go_wp2_with (at_builtin; refine wpList_append_bs rfl (.tmp 92) (.tmp 95) rfl w.heap.size _ _ mk rfl HOW.out _ [(x : Int)] rfl HL.out (by simp; omega) hsz ?_; intro v' w3 hown3 hgrow hat3; have B3 := hid (Below.grown (hbel.alloc hbel.size _) hgrow hsz (fun k hk => (HO.out.lt k hk).1)); have H3 := hid hown3; clear hown3 hgrow hat3)
                go_roundw
                case rel => exact ⟨k + 1, true, mk ++ [(x : Int)], by omega, by go_num, rfl, H3.out, (by intro q hq; rcases List.mem_append.1 hq with hq | hq; exact HM.out q hq; simp at hq; omega), HA2.out, B3.out⟩
                case measure => simp [intOf]; omega
          · have hY := tx_none (s := t) (k := k) (by omega) 256
            have h2' : decide (k < t.size) = false := by simp; omega
            have HY := hid hY
            clear hY
            by_cases hlast : x = 255
            · subst hlast
              have HA2 := hid (K.at_one HAT.out hk32 HX.out HY.out (by omega))
              clear HAT HX HY

              have hl1 := Bs.lit wr 5 [255] (by simp [maxLen]) (by intro q hq; simp at hq; omega)
              have ho1 := HO.out.alloc (.cells #[.int .u8 (255)] 5)
              have hsz : w.heap.size ≤ (wr.alloc (.cells #[.int .u8 (255)] 5)).heap.size := by have := hbel.size; simp; omega
              have HL := hid hl1
              have HOW := hid ho1
              clear hl1 ho1
              go_wp2_with (at_builtin; refine wpList_append_bs rfl (.tmp 92) (.tmp 95) rfl w.heap.size _ _ mk rfl HOW.out _ [255] rfl HL.out (by simp; omega) hsz ?_; intro v' w3 hown3 hgrow hat3; have B3 := hid (Below.grown (hbel.alloc hbel.size _) hgrow hsz (fun k hk => (HO.out.lt k hk).1)); have H3 := hid hown3; clear hown3 hgrow hat3)
              go_roundw
              case rel => exact ⟨k + 1, false, mk ++ [255], by omega, by go_num, rfl, H3.out, (by intro q hq; rcases List.mem_append.1 hq with hq | hq; exact HM.out q hq; simp at hq; omega), HA2.out, B3.out⟩
              case measure => simp [intOf]; omega
            · have HR := hid (K.at_last HAT.out hk32 HX.out HY.out (by omega))
              have hd : (256 - (x : Int)).tdiv 2 = (256 - (x : Int)) / 2 := Int.tdiv_eq_ediv_of_nonneg (by omega)
              by_cases h8 : 8 < (256 - (x : Int)) / 2
              · rw [show K.step (x : Int) 256 = 8 by unfold K.step; rw [if_pos rfl]; omega] at HR
                clear HAT HX HY
                have hl1 := Bs.lit wr 5 [(x : Int) + 8] (by simp [maxLen]) (by intro q hq; simp at hq; omega)
                have ho1 := HO.out.alloc (.cells #[.int .u8 ((x : Int) + 8)] 5)
                have hsz : w.heap.size ≤ (wr.alloc (.cells #[.int .u8 ((x : Int) + 8)] 5)).heap.size := by have := hbel.size; simp; omega
                have HL := hid hl1
                have HOW := hid ho1
                clear hl1 ho1
                go_wp2_with (at_builtin; refine wpList_append_bs rfl (.tmp 80) (.tmp 85) rfl w.heap.size _ _ mk rfl HOW.out _ [(x : Int) + 8] rfl HL.out (by simp; omega) hsz ?_; intro v' w3 hown3 hgrow hat3; have hcv := conv_str (Bs.of_own hown3 (by intro q hq; rcases List.mem_append.1 hq with hq | hq; exact HM.out q hq; simp at hq; omega)); have B3 := hid (Below.grown (hbel.alloc hbel.size _) hgrow hsz (fun k hk => (HO.out.lt k hk).1)); clear hown3 hgrow hat3)
                go_ret2
                rw [HR.out]
                exact ⟨rfl, B3.out⟩
              · obtain ⟨z, hz⟩ : ∃ z, (256 - (x : Int)) / 2 = z := ⟨_, rfl⟩
                rw [show K.step (x : Int) 256 = z by unfold K.step; rw [if_pos rfl]; omega] at HR
                have hzb : 1 ≤ z ∧ z ≤ 8 := by omega
                have hz2 : (x : Int) + z < 256 := by omega
                clear HAT HX HY
                have hl1 := Bs.lit wr 5 [(x : Int) + z] (by simp [maxLen]) (by intro q hq; simp at hq; omega)
                have ho1 := HO.out.alloc (.cells #[.int .u8 ((x : Int) + z)] 5)
                have hsz : w.heap.size ≤ (wr.alloc (.cells #[.int .u8 ((x : Int) + z)] 5)).heap.size := by have := hbel.size; simp; omega
                have HL := hid hl1
                have HOW := hid ho1
                clear hl1 ho1
                go_wp2_with (at_builtin; refine wpList_append_bs rfl (.tmp 80) (.tmp 85) rfl w.heap.size _ _ mk rfl HOW.out _ [(x : Int) + z] rfl HL.out (by simp; omega) hsz ?_; intro v' w3 hown3 hgrow hat3; have hcv := conv_str (Bs.of_own hown3 (by intro q hq; rcases List.mem_append.1 hq with hq | hq; exact HM.out q hq; simp at hq; omega)); have B3 := hid (Below.grown (hbel.alloc hbel.size _) hgrow hsz (fun k hk => (HO.out.lt k hk).1)); clear hown3 hgrow hat3)
                go_ret2
                rw [HR.out]
                exact ⟨rfl, B3.out⟩
      · have hX := tx_none (s := s) (k := k) (by omega) 0
        have h1' : decide (k < s.size) = false := by simp; omega
        have HX := hid hX
        clear hX
        cases tg
        · have hY : (((if false = true then tx t else []) : List Int).drop k).headD 256 = 256 := by simp
          have HY := hid hY
          clear hY
          have HR := hid (K.at_last HAT.out hk32 HX.out HY.out (by decide))
          rw [show (0 : Int) + K.step 0 256 = 8 by decide] at HR
          clear HAT HX HY
          have hl1 := Bs.lit wr 5 [8] (by simp [maxLen]) (by intro q hq; simp at hq; omega)
          have ho1 := HO.out.alloc (.cells #[.int .u8 (8)] 5)
          have hsz : w.heap.size ≤ (wr.alloc (.cells #[.int .u8 (8)] 5)).heap.size := by have := hbel.size; simp; omega
          have HL := hid hl1
          have HOW := hid ho1
          clear hl1 ho1
          go_wp2_with (at_builtin; refine wpList_append_bs rfl (.tmp 80) (.tmp 85) rfl w.heap.size _ _ mk rfl HOW.out _ [8] rfl HL.out (by simp; omega) hsz ?_; intro v' w3 hown3 hgrow hat3; have hcv := conv_str (Bs.of_own hown3 (by intro q hq; rcases List.mem_append.1 hq with hq | hq; exact HM.out q hq; simp at hq; omega)); have B3 := hid (Below.grown (hbel.alloc hbel.size _) hgrow hsz (fun k hk => (HO.out.lt k hk).1)); clear hown3 hgrow hat3)
          go_ret2
          rw [HR.out]
          exact ⟨rfl, B3.out⟩
        · by_cases h2 : k < t.size
          · have hY := tx_head h2 256
            obtain ⟨y, hy⟩ : ∃ y, (t[k]).toNat = y := ⟨_, rfl⟩
            have hyb : y < 256 := by rw [← hy]; exact (t[k]).toNat_lt
            rw [hy] at hY
            have h2' : (k : Int) < (t.size : Int) := by omega
            have HY := hid hY
            clear hY
            by_cases hlast : 1 < (y : Int)
            · have HR := hid (K.at_last HAT.out hk32 HX.out HY.out (by omega))
              have hd : ((y : Int)).tdiv 2 = (y : Int) / 2 := Int.tdiv_eq_ediv_of_nonneg (by omega)
              obtain ⟨z, hz⟩ : ∃ z, (y : Int) / 2 = z := ⟨_, rfl⟩
              have hyn : ((y : Int) == 256) = false := by simp; omega
              rw [show (0 : Int) + K.step (0 : Int) (y : Int) = z by unfold K.step; rw [if_neg (by omega)]; omega] at HR
              have hzb : 1 ≤ z ∧ z < 256 := by omega
              clear HAT HX HY
              have hl1 := Bs.lit wr 5 [z] (by simp [maxLen]) (by intro q hq; simp at hq; omega)
              have ho1 := HO.out.alloc (.cells #[.int .u8 (z)] 5)
              have hsz : w.heap.size ≤ (wr.alloc (.cells #[.int .u8 (z)] 5)).heap.size := by have := hbel.size; simp; omega
              have HL := hid hl1
              have HOW := hid ho1
              clear hl1 ho1
              go_wp2_with (at_builtin; refine wpList_append_bs rfl (.tmp 80) (.tmp 85) rfl w.heap.size _ _ mk rfl HOW.out _ [z] rfl HL.out (by simp; omega) hsz ?_; intro v' w3 hown3 hgrow hat3; have hcv := conv_str (Bs.of_own hown3 (by intro q hq; rcases List.mem_append.1 hq with hq | hq; exact HM.out q hq; simp at hq; omega)); have B3 := hid (Below.grown (hbel.alloc hbel.size _) hgrow hsz (fun k hk => (HO.out.lt k hk).1)); clear hown3 hgrow hat3)
              go_ret2
              rw [HR.out]
              exact ⟨rfl, B3.out⟩
            · by_cases hone : (y : Int) = 1
              · have HA2 := hid (K.at_one HAT.out hk32 HX.out HY.out (by omega))
                clear HAT HX HY
                have hone' : ((y : Int) == 1) = true := by simp [hone]
                have hl1 := Bs.lit wr 5 [0] (by simp [maxLen]) (by intro q hq; simp at hq; omega)
                have ho1 := HO.out.alloc (.cells #[.int .u8 (0)] 5)
                have hsz : w.heap.size ≤ (wr.alloc (.cells #[.int .u8 (0)] 5)).heap.size := by have := hbel.size; simp; omega
                have HL := hid hl1
                have HOW := hid ho1
                clear hl1 ho1
                go_wp2_with (at_builtin; refine wpList_append_bs rfl (.tmp 92) (.tmp 95) rfl w.heap.size _ _ mk rfl HOW.out _ [0] rfl HL.out (by simp; omega) hsz ?_; intro v' w3 hown3 hgrow hat3; have B3 := hid (Below.grown (hbel.alloc hbel.size _) hgrow hsz (fun k hk => (HO.out.lt k hk).1)); have H3 := hid hown3; clear hown3 hgrow hat3)
                go_roundw
                case rel => exact ⟨k + 1, false, mk ++ [0], by omega, by go_num, rfl, H3.out, (by intro q hq; rcases List.mem_append.1 hq with hq | hq; exact HM.out q hq; simp at hq; omega), HA2.out, B3.out⟩
                case measure => simp [intOf]; omega
              · have HA2 := hid (K.at_same HAT.out hk32 HX.out HY.out (by omega) (by omega))
                clear HAT HX HY
                have hone' : ((y : Int) == 1) = false := by simpa using hone
                have hl1 := Bs.lit wr 5 [0] (by simp [maxLen]) (by intro q hq; simp at hq; omega)
                have ho1 := HO.out.alloc (.cells #[.int .u8 (0)] 5)
                have hsz : w.heap.size ≤ (wr.alloc (.cells #[.int .u8 (0)] 5)).heap.size := by have := hbel.size; simp; omega
                have HL := hid hl1
                have HOW := hid ho1
                clear hl1 ho1
                go_wp2_with (at_builtin; refine wpList_append_bs rfl (.tmp 92) (.tmp 95) rfl w.heap.size _ _ mk rfl HOW.out _ [0] rfl HL.out (by simp; omega) hsz ?_; intro v' w3 hown3 hgrow hat3; have B3 := hid (Below.grown (hbel.alloc hbel.size _) hgrow hsz (fun k hk => (HO.out.lt k hk).1)); have H3 := hid hown3; clear hown3 hgrow hat3)
                go_roundw
                case rel => exact ⟨k + 1, true, mk ++ [0], by omega, by go_num, rfl, H3.out, (by intro q hq; rcases List.mem_append.1 hq with hq | hq; exact HM.out q hq; simp at hq; omega), HA2.out, B3.out⟩
                case measure => simp [intOf]; omega
          · have hY := tx_none (s := t) (k := k) (by omega) 256
            have h2' : decide (k < t.size) = false := by simp; omega
            have HY := hid hY
            clear hY
            have HR := hid (K.at_last HAT.out hk32 HX.out HY.out (by decide))
            rw [show (0 : Int) + K.step 0 256 = 8 by decide] at HR
            clear HAT HX HY
            have hl1 := Bs.lit wr 5 [8] (by simp [maxLen]) (by intro q hq; simp at hq; omega)
            have ho1 := HO.out.alloc (.cells #[.int .u8 (8)] 5)
            have hsz : w.heap.size ≤ (wr.alloc (.cells #[.int .u8 (8)] 5)).heap.size := by have := hbel.size; simp; omega
            have HL := hid hl1
            have HOW := hid ho1
            clear hl1 ho1
            go_wp2_with (at_builtin; refine wpList_append_bs rfl (.tmp 80) (.tmp 85) rfl w.heap.size _ _ mk rfl HOW.out _ [8] rfl HL.out (by simp; omega) hsz ?_; intro v' w3 hown3 hgrow hat3; have hcv := conv_str (Bs.of_own hown3 (by intro q hq; rcases List.mem_append.1 hq with hq | hq; exact HM.out q hq; simp at hq; omega)); have B3 := hid (Below.grown (hbel.alloc hbel.size _) hgrow hsz (fun k hk => (HO.out.lt k hk).1)); clear hown3 hgrow hat3)
            go_ret2
            rw [HR.out]
            exact ⟨rfl, B3.out⟩
    · obtain rfl : k = 32 := by omega
      have hR := K.at_end HAT.out
      subst hR
      clear HAT
      go_wp2
      go_ret2
      exact ⟨rfl, hbel⟩

theorem xbetween_any (s t : ByteArray) (w : World) (hs : s.size ≤ 1099511627776) (ht : t.size ≤ 1099511627776) :
    Calls Try.prog 9 #[.string s, .string t] w fun e w' => e = .returned (kv (K.key (tx s) (tx t))) ∧ Below w.heap.size w w' := by
  unfold K.key
  cases h : K.fine (tx s) (tx t)
  · exact xbetween_no s t w hs ht h
  · obtain ⟨f1, f2, f3⟩ := K.fine_parts h
    rw [if_pos rfl]
    by_cases e1 : tx s = []
    · by_cases e2 : tx t = []
      · exact xbetween_11 s t w hs ht e1 e2
      · exact xbetween_10 s t w hs ht e1 e2 (f2.resolve_left e2)
    · by_cases e2 : tx t = []
      · exact xbetween_01 s t w hs ht e1 e2 (f1.resolve_left e1)
      · exact xbetween_00 s t w hs ht e1 e2 (f1.resolve_left e1) (f2.resolve_left e2) (f3.resolve_left e2)

end Go.Proofs.Ytobnnidlpbnbkaa
