/-
  OpOne returns true for every bytes and two ops: its walk.
-/
import Derived.Test.YtmgemgkanlpnnaaDoorOLawH
import Derived.Test.YtmgemgkanlpnnaaDoorSame
import Derived.Test.YtmgemgkanlpnnaaDoorOOneR
namespace Go.Proofs.YtmgemgkanlpnnaaDoor
open Go.RowKit
set_option linter.unusedVariables false
set_option maxRecDepth 100000

theorem right_fine {o : Opn} (h : rightO o = true) : o.fine := by
  have h2 := (right_parts h).2 2 (by decide)
  have h6 := (right_parts h).2 6 (by decide)
  unfold goodF at h2 h6
  refine ⟨?_, ?_⟩
  · split at h2
    · simp [rightF, K.right, tx_length] at h2; omega
    · have : o.key.size = 0 := of_decide_eq_true h2
      omega
  · split at h6
    · simp [rightF] at h6; omega
    · have : o.text.size = 0 := of_decide_eq_true h6
      omega

set_option maxHeartbeats 8000000 in
theorem one_walk (vb : Value) (xs : List Int) (A : Value) (o : Opn) (v : Value) (hA : A = opv o v) (B : Value) (p : Opn) (u : Value) (hB : B = opv p u) (w : World) (hb : Bs w vb xs) (hC : Cs w v o.cuts) (hD : Cs w u p.cuts) (hL : Lay w) :
    Calls Tryd.prog 6 #[vb, A, B] w fun e w' => e = .returned (.bool true) ∧ Below w.heap.size w w' := by
  obtain ⟨ba0, bc0, rfl⟩ := hb.form
  have HN0 := hid hb.len
  obtain ⟨n, hn⟩ : ∃ n, xs.length = n := ⟨_, rfl⟩
  have HN := hid hn
  rw [hn] at hb HN0 ⊢
  have HAA := hid hA
  have HBB := hid hB
  have HB := hid hb
  have HC := hid hC
  have HD := hid hD
  have HL := hid hL
  clear hA hB hb hC hD hL hn
  go_enter Tryd.func6, Tryd.ntmps6
  go_wp2_with (first | (refine wpList_box_op rfl (.tmp 1) rfl A rfl o v HAA.out ?_; intro w1 hob hb1 hlt1; have HO1 := hid hob; have B1 := hid hb1; clear hob hb1 hlt1) | (refine wpList_box_op rfl (.tmp 2) rfl B rfl p u HBB.out ?_; intro w2 hob hb2 hlt1; have HP2 := hid hob; have B2 := hid hb2; clear hob hb2 hlt1))
  have HO2 := hid (HO1.out.below B2.out)
  have BB2 := hid (bt B1.out B2.out)
  obtain ⟨pb, hpb⟩ : ∃ pb, w1.heap.size = pb := ⟨_, rfl⟩
  rw [hpb] at HP2 ⊢
  clear HO1 B1 B2 hpb
  refine (alive_any w2 (HL.out.below BB2.out)).mono ?_
  rintro e w3 ⟨rfl, b3⟩
  have HO3 := hid (HO2.out.below b3)
  have HP3 := hid (HP2.out.below b3)
  have B3 := hid (bt BB2.out b3)
  have HC3 := hid (HC.out.below B3.out)
  have HD3 := hid (HD.out.below B3.out)
  have HB3 := hid (HB.out.below B3.out)
  clear b3 HO2 HP2 BB2 HC HD HB
  by_cases hlen : n ≤ 3000
  case neg =>
    have h1 : decide ((3000 : Int) < (n : Int)) = true := by simp; omega
    have h2 : decide (3000 < n) = true := by simp; omega
    go_wp2
    go_ret
    exact ⟨rfl, B3.out⟩
  have h1 : decide ((3000 : Int) < (n : Int)) = false := by simp; omega
  have h2 : decide (3000 < n) = false := by simp; omega
  have HA4 := hid (ba w3 (.cells (opl2 o v p u) 30))
  have HL4 := hid (long_any _ [(o, v), (p, u)] 2 _ (Os.two w3 o v p u HC3.out HD3.out) (by simp) (by decide))
  rw [show ([(o, v), (p, u)].all fun p => small p.1) = (small o && small p) from by simp] at HL4
  go_wp2_with (first | (refine wpList_load_opg (by kernel_rfl) (.tmp 4) rfl w.heap.size rfl o v HO3.out ?_) | (refine wpList_load_opg (by kernel_rfl) (.tmp 5) rfl pb rfl p u HP3.out ?_) | (refine wpList_ops2 (by kernel_rfl) _ _ rfl o v p u rfl rfl ?_) | fail)
  refine HL4.out.mono ?_
  rintro e w4 ⟨rfl, rfl⟩
  have HO4 := hid (HO3.out.below HA4.out)
  have HP4 := hid (HP3.out.below HA4.out)
  have B4 := hid (bt B3.out HA4.out)
  have HC4 := hid (HC3.out.below HA4.out)
  have HD4 := hid (HD3.out.below HA4.out)
  have HB4 := hid (HB3.out.below HA4.out)
  obtain ⟨W, hW⟩ : ∃ W, w3.alloc (.cells (opl2 o v p u) 30) = W := ⟨_, rfl⟩
  rw [hW] at HO4 HP4 B4 HC4 HD4 HB4 ⊢
  clear hW HL4 HA4 HO3 HP3 B3 HC3 HD3 HB3
  cases hs : (small o && small p)
  · go_wp2
    go_ret
    exact ⟨rfl, B4.out⟩
  simp only [Bool.and_eq_true] at hs
  have HF := hid (small_fine hs.1).1
  have HG := hid (small_fine hs.2).1
  have HLW := hid (HL.out.below B4.out)
  clear hs
  have HDE := hid (decode_any _ xs W HLW.out HB4.out (by rw [HN.out]; omega))
  have HBY := hid HB4.out.range
  obtain ⟨q, hq⟩ : ∃ q, decO Bnd.own xs = q := ⟨_, rfl⟩
  have HQ : Hid (q.2 = true → rightO q.1 = true ∧ encO q.1 = xs) := hid (fun h => by rw [← hq] at h ⊢; exact decO_sound Bnd.own HBY.out h)
  rw [hq] at HDE
  clear hq
  obtain ⟨q, qb⟩ := q
  dsimp only at HDE HQ
  go_wp2_with fail
  refine HDE.out.mono ?_
  rintro e w5 ⟨vq, rfl, hcq, b5, _⟩
  have hvd : ∃ va n vc, vq = .slice va n vc := by
    obtain ⟨va, vc, e, _⟩ := hcq.form
    exact ⟨va, _, vc, e⟩
  have HVD := hid hvd
  have HA6 := hid (ba w5 (opo q vq))
  have HO6 := hid ((HO4.out.below b5).below HA6.out)
  have HP6 := hid ((HP4.out.below b5).below HA6.out)
  have HQ6 := hid (Ob.new w5 q vq)
  have HC6 := hid ((HC4.out.below b5).below HA6.out)
  have HD6 := hid ((HD4.out.below b5).below HA6.out)
  have HE6 := hid (hcq.below HA6.out)
  have HB6 := hid ((HB4.out.below b5).below HA6.out)
  have B6 := hid (bt (bt B4.out b5) HA6.out)
  have HL6 := hid ((HLW.out.below b5).below HA6.out)
  clear hcq b5 hvd HDE HO4 HP4 HC4 HD4 HB4 B4 HLW
  cases qb
  case false =>
    have HO := hid HO6.out
    have HP := hid HP6.out
    have HCO := hid HC6.out
    have HCP := hid HD6.out
    have HLL := hid HL6.out
    have BB := hid B6.out
    cases ro' : rightO o
    · have HEO := hid (encode_no o v _ HLL.out HCO.out HF.out ro')
      go_wp2_with (first | (refine wpList_store_ops rfl _ _ rfl 0 q vq HVD.out rfl rfl ?_) | (refine wpList_load_op rfl (.tmp 4) rfl w.heap.size rfl o v HO.out ?_) | fail)
      refine HEO.out.mono ?_
      rintro e y1 ⟨rfl, c1⟩
      have HP1 := hid (HP.out.below c1)
      have BB1 := hid (bt BB.out c1)
      have HCP1 := hid (HCP.out.below c1)
      have HLL1 := hid (HLL.out.below c1)
      clear c1 HEO
      cases rp : rightO p
      · have HEP := hid (encode_no p u _ HLL1.out HCP1.out HG.out rp)
        go_wp2_with (first | (refine wpList_load_op rfl (.tmp 5) rfl pb rfl p u HP1.out ?_) | fail)
        refine HEP.out.mono ?_
        rintro e y2 ⟨rfl, c2⟩
        have BB2 := hid (bt BB1.out c2)
        clear c2 HEP
        go_wp2
        go_quiet (fail)
        go_wp2
        go_ret
        exact ⟨rfl, bt BB2.out (bd _ _)⟩
      · have HEP := hid (encode_yes p u _ HLL1.out HCP1.out HG.out rp)
        go_wp2_with (first | (refine wpList_load_op rfl (.tmp 5) rfl pb rfl p u HP1.out ?_) | fail)
        refine HEP.out.mono ?_
        rintro e y2 ⟨vz, rfl, _, c2⟩
        have BB2 := hid (bt BB1.out c2)
        clear c2 HEP
        go_wp2
        go_quiet (fail)
        go_wp2
        go_ret
        exact ⟨rfl, bt BB2.out (bd _ _)⟩
    · have HEO := hid (encode_yes o v _ HLL.out HCO.out HF.out ro')
      go_wp2_with (first | (refine wpList_store_ops rfl _ _ rfl 0 q vq HVD.out rfl rfl ?_) | (refine wpList_load_op rfl (.tmp 4) rfl w.heap.size rfl o v HO.out ?_) | fail)
      refine HEO.out.mono ?_
      rintro e y1 ⟨vy, rfl, howny, c1⟩
      have HY1 := hid (Bs.of_own howny (encO_byt ro'))
      have HO1 := hid (HO.out.below c1)
      have HP1 := hid (HP.out.below c1)
      have BB1 := hid (bt BB.out c1)
      have HCO1 := hid (HCO.out.below c1)
      have HCP1 := hid (HCP.out.below c1)
      have HLL1 := hid (HLL.out.below c1)
      clear c1 HEO howny
      cases rp : rightO p
      · have HEP := hid (encode_no p u _ HLL1.out HCP1.out HG.out rp)
        go_wp2_with (first | (refine wpList_load_op rfl (.tmp 5) rfl pb rfl p u HP1.out ?_) | fail)
        refine HEP.out.mono ?_
        rintro e y2 ⟨rfl, c2⟩
        have BB2 := hid (bt BB1.out c2)
        clear c2 HEP
        go_wp2
        go_quiet (fail)
        go_wp2
        go_ret
        exact ⟨rfl, bt BB2.out (bd _ _)⟩
      · have HEP := hid (encode_yes p u _ HLL1.out HCP1.out HG.out rp)
        go_wp2_with (first | (refine wpList_load_op rfl (.tmp 5) rfl pb rfl p u HP1.out ?_) | fail)
        refine HEP.out.mono ?_
        rintro e y2 ⟨vz, rfl, hownz, c2⟩
        have HZ2 := hid (Bs.of_own hownz (encO_byt rp))
        have HY2 := hid (HY1.out.below c2)
        have HO2 := hid (HO1.out.below c2)
        have HP2 := hid (HP1.out.below c2)
        have HCO2 := hid (HCO1.out.below c2)
        have HCP2 := hid (HCP1.out.below c2)
        have BB2 := hid (bt BB1.out c2)
        obtain ⟨b, hb⟩ : ∃ b : Bool, b = true ↔ o = p := by
          by_cases h : o = p
          · exact ⟨true, by simp [h]⟩
          · exact ⟨false, by simp [h]⟩
        have hbe : decide (encO o = encO p) = b := by
          cases b with
          | true => simp [hb.1 rfl]
          | false =>
            have : ¬ encO o = encO p := fun h => by have := hb.2 (encO_inj ro' rp h); cases this
            simp [this]
        have HBE := hid hbe
        have HBI := hid hb
        clear c2 HEP hownz hbe hb
        go_wp2_with fail
        refine one_last y2 w.heap.size pb o v p u vy vz b HO2.out HP2.out (fun W hW => by rw [← HBE.out]; exact same_b vy vz _ _ W (HY2.out.below hW) (HZ2.out.below hW)) (fun W hW => (same_op o p v u W (HCO2.out.below hW) (HCP2.out.below hW)).mono fun _ _ ⟨r, h1, h2, h3⟩ => ⟨by rw [h1, Bool.eq_iff_iff.2 (h2.trans HBI.out.symm)], h3⟩) (fun W hW => ?_)
        have BB3 := hid (bt BB2.out hW)
        go_wp2_with fail
        go_ret
        exact ⟨rfl, BB3.out⟩
  case true =>
    obtain ⟨rq, eq⟩ := HQ.out rfl
    have HEQ := hid (encode_yes q vq _ HL6.out HE6.out (right_fine rq) rq)
    rw [eq] at HEQ
    have HRQ := hid rq
    clear rq eq
    go_wp2_with (first | (refine wpList_store_ops rfl _ _ rfl 0 q vq HVD.out rfl rfl ?_) | (refine wpList_load_op rfl (.tmp 7) rfl w5.heap.size rfl q vq HQ6.out ?_) | fail)
    refine HEQ.out.mono ?_
    rintro e w7 ⟨va, rfl, hown7, b7⟩
    have HA7 := hid (Bs.of_own hown7 HBY.out)
    have HSB := hid (same_b va _ _ _ w7 HA7.out (HB6.out.below b7))
    rw [show decide (xs = xs) = true from by simp] at HSB
    have HO7 := hid (HO6.out.below b7)
    have HP7 := hid (HP6.out.below b7)
    have HQ7 := hid (HQ6.out.below b7)
    have HC7 := hid (HC6.out.below b7)
    have HD7 := hid (HD6.out.below b7)
    have HE7 := hid (HE6.out.below b7)
    have HL7 := hid (HL6.out.below b7)
    have B7 := hid (bt B6.out b7)
    clear b7 hown7 HEQ
    go_wp2_with fail
    refine HSB.out.mono ?_
    rintro e w8 ⟨rfl, b8⟩
    have HQ8 := hid (HQ7.out.below b8)
    have HRI := hid (right_any q vq w8 (HL7.out.below b8) (HE7.out.below b8) (right_fine HRQ.out))
    rw [HRQ.out] at HRI
    have HO8 := hid (HO7.out.below b8)
    have HP8 := hid (HP7.out.below b8)
    have HC8 := hid (HC7.out.below b8)
    have HD8 := hid (HD7.out.below b8)
    have HL8 := hid (HL7.out.below b8)
    have B8 := hid (bt B7.out b8)
    clear b8 HSB
    go_wp2_with (first | (refine wpList_load_opg (by kernel_rfl) (.tmp 7) rfl w5.heap.size rfl q vq HQ8.out ?_) | fail)
    refine HRI.out.mono ?_
    rintro e w9 ⟨rfl, b9⟩
    have HO := hid (HO8.out.below b9)
    have HP := hid (HP8.out.below b9)
    have HCO := hid (HC8.out.below b9)
    have HCP := hid (HD8.out.below b9)
    have HLL := hid (HL8.out.below b9)
    have BB := hid (bt B8.out b9)
    cases ro' : rightO o
    · have HEO := hid (encode_no o v _ HLL.out HCO.out HF.out ro')
      go_wp2_with (first | (refine wpList_load_op rfl (.tmp 4) rfl w.heap.size rfl o v HO.out ?_) | fail)
      refine HEO.out.mono ?_
      rintro e y1 ⟨rfl, c1⟩
      have HP1 := hid (HP.out.below c1)
      have BB1 := hid (bt BB.out c1)
      have HCP1 := hid (HCP.out.below c1)
      have HLL1 := hid (HLL.out.below c1)
      clear c1 HEO
      cases rp : rightO p
      · have HEP := hid (encode_no p u _ HLL1.out HCP1.out HG.out rp)
        go_wp2_with (first | (refine wpList_load_op rfl (.tmp 5) rfl pb rfl p u HP1.out ?_) | fail)
        refine HEP.out.mono ?_
        rintro e y2 ⟨rfl, c2⟩
        have BB2 := hid (bt BB1.out c2)
        clear c2 HEP
        go_wp2
        go_quiet (fail)
        go_wp2
        go_ret
        exact ⟨rfl, bt BB2.out (bd _ _)⟩
      · have HEP := hid (encode_yes p u _ HLL1.out HCP1.out HG.out rp)
        go_wp2_with (first | (refine wpList_load_op rfl (.tmp 5) rfl pb rfl p u HP1.out ?_) | fail)
        refine HEP.out.mono ?_
        rintro e y2 ⟨vz, rfl, _, c2⟩
        have BB2 := hid (bt BB1.out c2)
        clear c2 HEP
        go_wp2
        go_quiet (fail)
        go_wp2
        go_ret
        exact ⟨rfl, bt BB2.out (bd _ _)⟩
    · have HEO := hid (encode_yes o v _ HLL.out HCO.out HF.out ro')
      go_wp2_with (first | (refine wpList_load_op rfl (.tmp 4) rfl w.heap.size rfl o v HO.out ?_) | fail)
      refine HEO.out.mono ?_
      rintro e y1 ⟨vy, rfl, howny, c1⟩
      have HY1 := hid (Bs.of_own howny (encO_byt ro'))
      have HO1 := hid (HO.out.below c1)
      have HP1 := hid (HP.out.below c1)
      have BB1 := hid (bt BB.out c1)
      have HCO1 := hid (HCO.out.below c1)
      have HCP1 := hid (HCP.out.below c1)
      have HLL1 := hid (HLL.out.below c1)
      clear c1 HEO howny
      cases rp : rightO p
      · have HEP := hid (encode_no p u _ HLL1.out HCP1.out HG.out rp)
        go_wp2_with (first | (refine wpList_load_op rfl (.tmp 5) rfl pb rfl p u HP1.out ?_) | fail)
        refine HEP.out.mono ?_
        rintro e y2 ⟨rfl, c2⟩
        have BB2 := hid (bt BB1.out c2)
        clear c2 HEP
        go_wp2
        go_quiet (fail)
        go_wp2
        go_ret
        exact ⟨rfl, bt BB2.out (bd _ _)⟩
      · have HEP := hid (encode_yes p u _ HLL1.out HCP1.out HG.out rp)
        go_wp2_with (first | (refine wpList_load_op rfl (.tmp 5) rfl pb rfl p u HP1.out ?_) | fail)
        refine HEP.out.mono ?_
        rintro e y2 ⟨vz, rfl, hownz, c2⟩
        have HZ2 := hid (Bs.of_own hownz (encO_byt rp))
        have HY2 := hid (HY1.out.below c2)
        have HO2 := hid (HO1.out.below c2)
        have HP2 := hid (HP1.out.below c2)
        have HCO2 := hid (HCO1.out.below c2)
        have HCP2 := hid (HCP1.out.below c2)
        have BB2 := hid (bt BB1.out c2)
        obtain ⟨b, hb⟩ : ∃ b : Bool, b = true ↔ o = p := by
          by_cases h : o = p
          · exact ⟨true, by simp [h]⟩
          · exact ⟨false, by simp [h]⟩
        have hbe : decide (encO o = encO p) = b := by
          cases b with
          | true => simp [hb.1 rfl]
          | false =>
            have : ¬ encO o = encO p := fun h => by have := hb.2 (encO_inj ro' rp h); cases this
            simp [this]
        have HBE := hid hbe
        have HBI := hid hb
        clear c2 HEP hownz hbe hb
        go_wp2_with fail
        refine one_last y2 w.heap.size pb o v p u vy vz b HO2.out HP2.out (fun W hW => by rw [← HBE.out]; exact same_b vy vz _ _ W (HY2.out.below hW) (HZ2.out.below hW)) (fun W hW => (same_op o p v u W (HCO2.out.below hW) (HCP2.out.below hW)).mono fun _ _ ⟨r, h1, h2, h3⟩ => ⟨by rw [h1, Bool.eq_iff_iff.2 (h2.trans HBI.out.symm)], h3⟩) (fun W hW => ?_)
        have BB3 := hid (bt BB2.out hW)
        go_wp2_with fail
        go_ret
        exact ⟨rfl, BB3.out⟩

end Go.Proofs.YtmgemgkanlpnnaaDoor
