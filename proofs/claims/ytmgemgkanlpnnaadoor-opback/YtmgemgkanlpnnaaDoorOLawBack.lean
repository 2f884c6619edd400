/-
  OpBack returns true for every op, place and byte: its walk.
-/
import Derived.Test.YtmgemgkanlpnnaaDoorOLawH
namespace Go.Proofs.YtmgemgkanlpnnaaDoor
open Go.RowKit
set_option linter.unusedVariables false
set_option maxRecDepth 100000

set_option maxHeartbeats 8000000 in
theorem back_walk (A : Value) (o : Opn) (v : Value) (hA : A = opv o v) (cut more : Int) (hm : 0 ≤ more ∧ more < 256) (w : World) (hC : Cs w v o.cuts) (hL : Lay w) :
    Calls Tryd.prog 5 #[A, .int .i64 cut, .int .u8 more] w fun e w' => e = .returned (.bool true) ∧ Below w.heap.size w w' := by
  have HAA := hid hA
  have HC := hid hC
  have HL := hid hL
  have HM := hid hm
  clear hA hC hL hm
  go_enter Tryd.func5, Tryd.ntmps5
  go_wp2_with (refine wpList_box_op rfl _ rfl A rfl o v HAA.out ?_; intro w1 hob hb1 hlt1; have HO1 := hid hob; have B1 := hid hb1; clear hob hb1 hlt1)
  refine (alive_any w1 (HL.out.below B1.out)).mono ?_
  rintro e w2 ⟨rfl, b2⟩
  have HO2 := hid (HO1.out.below b2)
  have B2 := hid (bt B1.out b2)
  have HC2 := hid (HC.out.below B2.out)
  clear b2
  have HA3 := hid (ba w2 (opo o v))
  have HL3 := hid (long_any _ [(o, v)] 1 _ (Os.one w2 o v HC2.out) (by simp) (by decide))
  rw [show ([(o, v)].all fun p => small p.1) = small o from by simp] at HL3
  have HO3 := hid (HO2.out.below HA3.out)
  have B3 := hid (bt B2.out HA3.out)
  have HC3 := hid (HC2.out.below HA3.out)
  go_wp2_with (first | (refine wpList_load_op rfl _ rfl w.heap.size rfl o v HO2.out ?_) | (refine wpList_ops1 rfl _ rfl o v rfl ?_) | fail)
  refine HL3.out.mono ?_
  rintro e w3 ⟨rfl, rfl⟩
  clear HL3
  obtain ⟨W, hW⟩ : ∃ W, w2.alloc (opo o v) = W := ⟨_, rfl⟩
  rw [hW] at HO3 B3 HC3 ⊢
  clear hW HA3 HO2 B2 HC2 HO1 B1 HC
  cases hs : small o
  · go_wp2
    go_ret
    exact ⟨rfl, B3.out⟩
  · obtain ⟨hfin, hcl⟩ := small_fine hs
    have HF := hid hfin
    clear hs hfin hcl
    have HLW := hid (HL.out.below B3.out)
    cases hr : rightO o
    · have HE := hid (encode_no o v W HLW.out HC3.out HF.out hr)
      have HR := hid hr
      clear hr
      go_wp2_with (first | (refine wpList_load_op rfl _ rfl w.heap.size rfl o v HO3.out ?_) | fail)
      refine HE.out.mono ?_
      rintro e w4 ⟨rfl, b4⟩
      have HO4 := hid (HO3.out.below b4)
      have B4 := hid (bt B3.out b4)
      have HI4 := hid (right_any o v w4 (HLW.out.below b4) (HC3.out.below b4) HF.out)
      rw [HR.out] at HI4
      clear b4
      go_wp2_with (first | (refine wpList_load_op rfl _ rfl w.heap.size rfl o v HO4.out ?_) | fail)
      refine HI4.out.mono ?_
      rintro e w5 ⟨rfl, b5⟩
      have B5 := hid (bt B4.out b5)
      clear b5
      go_wp2
      go_ret
      exact ⟨rfl, B5.out⟩
    · have HE := hid (encode_yes o v W HLW.out HC3.out HF.out hr)
      have HR := hid hr
      have hlen := encO_len hr
      have hpos := encO_pos o
      have hby := encO_byt hr
      have hd0 := decO_full own_ok hr
      obtain ⟨X, hX⟩ : ∃ X, encO o = X := ⟨_, rfl⟩
      have HDM : Hid (∀ m, K.Byt (X ++ [m]) → (decO Bnd.own (X ++ [m])).2 = false) := hid fun m hb => by rw [← hX] at hb ⊢; exact dec_more hr hb
      have HDL : Hid (∀ j, j < X.length → K.Byt (X.take j) → (decO Bnd.own (X.take j)).2 = false) := hid fun j hj hb => by rw [← hX] at hj hb ⊢; exact dec_less hr hj hb
      rw [hX] at HE hlen hpos hd0 hby
      obtain ⟨n, hn⟩ : ∃ n, X.length = n := ⟨_, rfl⟩
      have HN := hid hn
      rw [hn] at HE hlen hpos
      have HD0 := hid hd0
      have HBY := hid hby
      clear hr hX hn hd0 hby
      go_wp2_with (first | (refine wpList_load_op rfl _ rfl w.heap.size rfl o v HO3.out ?_) | fail)
      refine HE.out.mono ?_
      rintro e w4 ⟨u, rfl, hown4, b4⟩
      have hbs4 := Bs.of_own hown4 HBY.out
      obtain ⟨a4, c4, rfl, hc4⟩ := own_form hown4
      have HB4 := hid hbs4
      have HO4 := hid (HO3.out.below b4)
      have HC4 := hid (HC3.out.below b4)
      have HL4 := hid (HLW.out.below b4)
      have B4 := hid (bt B3.out b4)
      have HDE := hid (decode_any _ X w4 HL4.out hbs4 (by rw [HN.out]; omega))
      rw [HD0.out] at HDE
      clear hbs4 hown4 b4
      go_wp2_with fail
      refine HDE.out.mono ?_
      rintro e w5 ⟨vd, rfl, hcd, b5, _⟩
      have hvd : ∃ va n vc, vd = .slice va n vc := by
        obtain ⟨va, vc, e, _⟩ := hcd.form
        exact ⟨va, _, vc, e⟩
      have HVD := hid hvd
      have HA6 := hid (ba w5 (opo o vd))
      have HO6 := hid ((HO4.out.below b5).below HA6.out)
      have HP6 := hid (Ob.new w5 o vd)
      have HC6 := hid ((HC4.out.below b5).below HA6.out)
      have HD6 := hid (hcd.below HA6.out)
      have HB6 := hid ((HB4.out.below b5).below HA6.out)
      have B6 := hid (bt (bt B4.out b5) HA6.out)
      have HL6 := hid ((HL4.out.below b5).below HA6.out)
      clear hcd b5 hvd HDE
      have HSO := hid (sameop_any o o vd v _ HD6.out HC6.out)
      go_wp2_with (first | (refine wpList_store_ops rfl _ _ rfl 0 o vd HVD.out rfl rfl ?_) | (refine wpList_load_opg (by kernel_rfl) _ rfl w5.heap.size rfl o vd HP6.out ?_) | (refine wpList_load_opg (by kernel_rfl) _ rfl w.heap.size rfl o v HO6.out ?_) | fail)
      refine HSO.out.mono ?_
      rintro e w7 ⟨r, rfl, hr7, b7⟩
      obtain rfl : r = true := hr7.2 trivial
      have HB7 := hid (HB6.out.below b7)
      have B7 := hid (bt B6.out b7)
      have HL7 := hid (HL6.out.below b7)
      clear b7 hr7 HSO
      have hn0 : ¬ (n : Int) = 0 := by omega
      have hn1 : decide ((n : Int) = 0) = false := by simp; omega
      have hn2 : decide (n = 0) = false := by simp; omega
      have HCP := hid (copy_own _ X w7 HB7.out (by rw [HN.out]; omega))
      rw [HN.out] at HCP
      go_wp2_with fail
      refine HCP.out.mono ?_
      rintro e w8 ⟨g, cap, rfl, hown8, b8⟩
      have hb9 := bt b8 (ba w8 (.cells #[.int .u8 more] 5))
      have HLT : Hid (Bs (w8.alloc (.cells #[.int .u8 more] 5)) (.slice (some ⟨w8.heap.size, 0, none⟩) 1 1) [more]) := hid (Bs.lit w8 5 [more] (by simp [maxLen]) (fun x hx => by rw [List.mem_singleton.1 hx]; exact HM.out))
      have HOW := hid (own_below hown8 (ba w8 (.cells #[.int .u8 more] 5)))
      have hg : w7.heap.size ≤ g := by
        rcases hown8.2 with ⟨h, _⟩ | ⟨g', _, _, h, h2, _⟩
        · cases h
        · simp only [Value.slice.injEq, Option.some.injEq, Addr.mk.injEq] at h
          omega
      have H9 := hid hb9
      have HG : Hid (∀ k, (Value.slice (some ⟨g, 0, none⟩) n cap).ownBlock = some k → w7.heap.size ≤ k) := hid (fun k hk => by simp [Value.ownBlock] at hk; omega)
      have HBM := hid (byt_app HBY.out (b := [more]) (fun x hx => by rw [List.mem_singleton.1 hx]; exact HM.out))
      clear hown8 b8 HCP hb9 hg
      go_wp2_with (at_builtin; refine wpList_append_bs rfl _ _ rfl w7.heap.size _ _ X rfl HOW.out _ [more] rfl HLT.out (by simp; omega) H9.out.size ?_; intro v' w9 hown9 hgrow9 hat9; have HB9 := hid (Below.grown H9.out hgrow9 H9.out.size HG.out); have HBS9 := hid (Bs.of_own hown9 HBM.out); obtain ⟨a9, c9, rfl, _⟩ := own_form hown9; clear hown9 hgrow9 hat9)
      refine (decode_any _ (X ++ [more]) w9 (HL7.out.below HB9.out) HBS9.out (by rw [List.length_append, HN.out]; simp; omega)).mono ?_
      rintro e w10 ⟨v10, rfl, _, b10, _⟩
      rw [HDM.out more HBS9.out.range]
      generalize (decO Bnd.own (X ++ [more])).1 = p10
      have B10 := hid (bt (bt B7.out HB9.out) b10)
      have HB10 := hid ((HB7.out.below HB9.out).below b10)
      have HL10 := hid ((HL7.out.below HB9.out).below b10)
      clear b10 HB9 HBS9 HLT HOW H9
      by_cases h0 : 0 ≤ cut
      · obtain ⟨c, rfl⟩ := Int.eq_ofNat_of_zero_le h0
        by_cases h1 : c < n
        · have h1' : (c : Int) < (n : Int) := by omega
          have HT := hid (HB10.out.take c (by omega))
          have HDE := hid (decode_any _ (X.take c) w10 HL10.out HT.out (by rw [List.length_take, HN.out]; omega))
          rw [HDL.out c (by rw [HN.out]; exact h1) HT.out.range] at HDE
          generalize (decO Bnd.own (X.take c)).1 = p11 at HDE
          go_wp2_with fail
          refine HDE.out.mono ?_
          rintro e w11 ⟨v11, rfl, _, b11, _⟩
          have B11 := hid (bt B10.out b11)
          clear b11 HDE
          go_wp2
          go_ret
          exact ⟨rfl, B11.out⟩
        · have h1' : ¬ (c : Int) < (n : Int) := by omega
          go_wp2
          go_ret
          exact ⟨rfl, B10.out⟩
      · go_wp2
        go_ret
        exact ⟨rfl, B10.out⟩

end Go.Proofs.YtmgemgkanlpnnaaDoor
