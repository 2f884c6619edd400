/-
  For all rows of bytes and every number the law CrcBack returns true: frames, one behind the other, are split into what they were made of; cut anywhere those are told that stand whole ahead of the cut. No condition.
-/
import Derived.Test.YtkbfkdgdommngaaCLawPlaces
namespace Go.Proofs.Ytkbfkdgdommngaa
open Go.RowKit
set_option linter.unusedVariables false

/-- Behind k frames: j of them stand whole ahead of the cut c. -/
def Ahead (xss : List (List Int)) (c k j : Nat) : Prop := j ≤ k ∧ (C.cat (xss.take j)).length ≤ c ∧ ∀ i, j < i → i ≤ k → c < (C.cat (xss.take i)).length
theorem Ahead.start (xss : List (List Int)) (c : Nat) : Ahead xss c 0 0 := ⟨Nat.le_refl _, by simp [C.cat], fun i h1 h2 => by omega⟩
theorem Ahead.more {xss : List (List Int)} {c k j : Nat} (h : Ahead xss c k j) (hc : (C.cat (xss.take (k + 1))).length ≤ c) : Ahead xss c (k + 1) (k + 1) := ⟨Nat.le_refl _, hc, fun i h1 h2 => by omega⟩
theorem Ahead.same {xss : List (List Int)} {c k j : Nat} (h : Ahead xss c k j) (hc : c < (C.cat (xss.take (k + 1))).length) : Ahead xss c (k + 1) j := by
  refine ⟨by have := h.1; omega, h.2.1, fun i h1 h2 => ?_⟩
  by_cases e : i = k + 1
  · rw [e]; exact hc
  · exact h.2.2 i h1 (by omega)
theorem cat_take_le (xss : List (List Int)) (j : Nat) : (C.cat (xss.take j)).length ≤ (C.cat xss).length := by
  have : C.cat xss = C.cat (xss.take j) ++ C.cat (xss.drop j) := by rw [← C.cat_append, List.take_append_drop]
  rw [this, List.length_append]
  omega
theorem Ahead.sp {xss : List (List Int)} {c j c1 : Nat} (h : Ahead xss c xss.length j) (hl : ∀ l ∈ xss, C.Bytes l ∧ l.length ≤ 65536) (hc : c1 = c ∧ c ≤ (C.cat xss).length ∨ c1 = (C.cat xss).length ∧ (C.cat xss).length ≤ c) :
    C.Sp ((C.cat xss).take c1) (xss.take j) (C.cat (xss.take j)).length (if (C.cat (xss.take j)).length = c1 then 0 else 1) := by
  have h1 := cat_take_le xss j
  refine C.Sp.cut xss hl j c1 h.1 (by have := h.2.1; omega) (fun hj => ?_) (by omega)
  have := h.2.2 (j + 1) (by omega) (by omega)
  omega

set_option maxRecDepth 100000 in
set_option maxHeartbeats 8000000 in
theorem back_any (v : Value) (xss : List (List Int)) (cut : Int) (w : World) (h : Ls w v xss ∧ ∀ l ∈ xss, l.length ≤ 140737488355328) (wc : (Lit.int .i64 cut).wf = true) :
    Calls Try.prog 4 #[v, .int .i64 cut] w fun e w' => e = .returned (.bool true) ∧ Below w.heap.size w w' := by
  clear wc
  obtain ⟨h, hsz⟩ := h
  have hlx := h.len
  unfold maxLen at hlx
  have HL := hid h
  have HZ := hid hsz
  have hv : ∃ a c, v = .slice a xss.length c ∧ xss.length ≤ c := by
    obtain ⟨a, c, e, h2, _⟩ := h
    exact ⟨a, c, e, h2⟩
  obtain ⟨av, cv, rfl, hcv⟩ := hv
  clear h hsz
  obtain ⟨n, hn⟩ : ∃ n, xss.length = n := ⟨_, rfl⟩
  rw [hn] at hlx HL hcv ⊢
  have HN := hid hn
  clear hn
  go_enter Try.func4, Try.ntmps4
  go_wp2_with fail
  refine (alive_any _).mono ?_
  rintro e w1 ⟨rfl, b1⟩
  go_wp2_with fail
  refine (weigh_any _ xss 3000 _ (HL.out.below b1) HZ.out (by decide)).mono ?_
  rintro e w1' ⟨r, rfl, rfl, hr⟩
  have HW := hid hr
  clear hr HZ
  by_cases hr2 : 3000 < r
  · go_wp2
    go_ret
    exact ⟨rfl, b1⟩
  · have hwgt : wgt xss ≤ 3000 := by have := HW.out (by omega); omega
    have hr2' : decide (3000 < r) = false := by simpa using hr2
    have hcat := cat_le xss
    have hmem := hid (fun k (hk : k < n) => (by
      have hk' : k < xss.length := by rw [HN.out]; exact hk
      have h1 : xss.getD k [] = xss[k] := by simp [List.getD, hk']
      have h2 := wgt_mem (List.getElem_mem hk')
      rw [h1]
      omega : (xss.getD k []).length ≤ 3000))
    have hcl := hid (fun k => (by
      have h1 := cat_le (xss.take k)
      have h2 := wgt_take_le xss k
      omega : (C.cat (xss.take k)).length ≤ 24000))
    have hby := hid (fun l hl => (⟨HL.out.bytes l hl, by have := wgt_mem hl; omega⟩ : C.Bytes l ∧ l.length ≤ 65536))
    have b2 : Below w.heap.size w (w1.alloc (.cells #[] 5)) := b1.alloc b1.size _
    have hown0 : (w1.alloc (.cells #[] 5)).ownsRow w.heap.size 5 1 (.slice (some ⟨w1.heap.size, 0, none⟩) 0 0) 0 (cs []) := World.ownsRow_made w1 #[] 0 b1.size (Nat.zero_le _) rfl
    have H0 := hid hown0
    clear HW hr2 hcat hwgt hown0 b1
    by_cases hcut : cut < 0
    · have hcut' : decide (cut < 0) = true := by simpa using hcut
      go_wp2
      go_loopw [5, 6, 7, 8] (fun o hj he i wr => ∃ k j : Nat, k ≤ n ∧ i = .int .i64 k ∧ hj = .int .i64 j ∧ he = .int .i64 (C.cat (xss.take j)).length ∧ Ahead xss 0 k j ∧ wr.ownsRow w.heap.size 5 1 o (C.cat (xss.take k)).length (cs (C.cat (xss.take k))) ∧ Below w.heap.size w wr) (fun _ _ _ i _ => n - (intOf i).toNat)
      case atStart => exact ⟨0, 0, Nat.zero_le _, rfl, rfl, rfl, Ahead.start _ _, H0.out, b2⟩
      case round =>
        clear H0 b2
        obtain ⟨k, j, hk, rfl, rfl, rfl, hah, hown, bel⟩ := hrel
        have HAH := hid hah
        have hjk := hah.1
        clear hah
        have hej := hcl.out j
        by_cases hlt : k < n
        · have hlt' : (k : Int) < (n : Int) := by omega
          obtain ⟨bx, ox, cx, e1, _, _, hcx⟩ := (HL.out.below bel).inv (by rw [HN.out]; omega)
          simp only [Value.slice.injEq] at e1
          obtain ⟨rfl, -, rfl⟩ := e1
          obtain ⟨ux, gx, sx⟩ := hcx k (by rw [HN.out]; exact hlt)
          clear hcx
          have hst := hid (cat_step (xss := xss) (k := k) (by rw [HN.out]; exact hlt))
          have hlk := hmem.out k hlt
          have hck := hcl.out k
          obtain ⟨l, hl⟩ : ∃ l, xss.getD k [] = l := ⟨_, rfl⟩
          rw [hl] at sx hst hlk
          clear hl
          obtain ⟨L, hL⟩ : ∃ L, C.cat (xss.take k) = L := ⟨_, rfl⟩
          rw [hL] at hst hown hck
          clear hL
          obtain ⟨E, hE⟩ : ∃ E, (C.cat (xss.take j)).length = E := ⟨_, rfl⟩
          rw [hE] at hej ⊢
          have HE := hid hE
          clear hE
          have hfx : ∃ a c, ux = .slice a l.length c := by
            obtain ⟨a, c, e, _⟩ := sx
            exact ⟨a, c, e⟩
          obtain ⟨ax, dx, rfl⟩ := hfx
          have SX := hid sx
          clear sx
          go_wp2_with fail
          refine (frame_bs _ l _ SX.out (by omega)).mono ?_
          rintro e w2 ⟨vf, rfl, hvf, b2⟩
          have gx2 : w2.cell? ⟨bx, ox + k, none⟩ = some (.slice ax l.length dx) := by rw [b2.cell (World.block_lt_of_cell? _ _ gx)]; exact gx
          have hown2 := own_below hown b2
          have bel2 := bt bel b2
          have HVF := hid hvf
          have hvf' : ∃ a c, vf = .slice a (C.frame l).length c := by
            obtain ⟨a, c, e, _⟩ := hvf
            exact ⟨a, c, e⟩
          obtain ⟨af, cf, rfl⟩ := hvf'
          obtain ⟨F, hF⟩ : ∃ F, (C.frame l).length = F := ⟨_, rfl⟩
          have hF2 : F = 8 + l.length := by rw [← hF]; exact C.frame_length l
          have hne : ((F : Int) != 8 + (l.length : Int)) = false := by simp; omega
          have hF3 : F ≤ 3008 := by omega
          have hF8 : 8 ≤ F := by omega
          rw [hF] at HVF ⊢
          have HF := hid hF
          clear hown hvf b2 bel hF hF2 gx
          obtain ⟨M, hM⟩ : ∃ M, L.length + F = M := ⟨_, rfl⟩
          have hMb : M ≤ 30000 := by omega
          have hM8 : 8 ≤ M := by omega
          have hML : Hid ((C.cat (xss.take (k + 1))).length = M) := by rw [hst.out, List.length_append, HF.out]; exact hM
          have HM := hid hM
          clear hM
          by_cases hMc : M ≤ 0
          · exfalso; omega
          · have hMc' : ¬ (M : Int) ≤ (0 : Int) := by omega
            have hah2 := hid (HAH.out.same (by rw [hML.out]; omega))
            go_wp2_with (at_builtin; refine wpList_append_bs rfl (.tmp 50) (.tmp 51) rfl w.heap.size _ _ L rfl hown2 _ (C.frame l) rfl HVF.out (by rw [HF.out]; omega) bel2.size ?_; intro v' w3 hown3 hgrow hat; rw [HF.out, HM.out] at hown3; obtain ⟨a3, c3, rfl, _⟩ := own_form hown3)
            have bel3 : Below w.heap.size w w3 := bel2.grown hgrow bel2.size (fun k hk => (hown2.lt k hk).1)
            have H3 := hid hown3
            go_roundw
            case rel =>
              have R : ∃ k' j' : Nat, k' ≤ n ∧ Value.int .i64 ((k : Int) + 1) = .int .i64 k' ∧ Value.int .i64 (j : Int) = .int .i64 j' ∧ Value.int .i64 (E : Int) = .int .i64 (C.cat (xss.take j')).length ∧ Ahead xss 0 k' j' ∧ w3.ownsRow w.heap.size 5 1 (.slice a3 M c3) (C.cat (xss.take k')).length (cs (C.cat (xss.take k'))) ∧ Below w.heap.size w w3 :=
                ⟨k + 1, j, by omega, by go_num, rfl, by rw [HE.out], hah2.out, by rw [hML.out, hst.out]; exact H3.out, bel3⟩
              first | exact R | ((repeat apply Exists.intro); exact ⟨R, rfl⟩)
            case measure => simp [intOf]; omega
        · obtain rfl : k = n := by omega
          rw [List.take_of_length_le (by rw [HN.out]; exact Nat.le_refl _)] at hown
          have hcn := hcl.out k
          rw [List.take_of_length_le (by rw [HN.out]; exact Nat.le_refl _)] at hcn
          have hEN := cat_take_le xss j
          have hsp0 := hid (C.Sp.frames C.Sp.done xss hby.out)
          have hspc := hid (fun c1 hc => Ahead.sp (c1 := c1) (by rw [HN.out]; exact HAH.out) hby.out hc)
          obtain ⟨E, hE⟩ : ∃ E, (C.cat (xss.take j)).length = E := ⟨_, rfl⟩
          obtain ⟨N, hN⟩ : ∃ N, (C.cat xss).length = N := ⟨_, rfl⟩
          have HNN := hid hN
          have hall := Bs.of_own hown (by
            intro x hx
            obtain ⟨l, hl, hx'⟩ := List.mem_flatMap.1 hx
            exact C.frame_bytes (hby.out l hl).1 x hx')
          rw [List.append_nil, List.append_nil, Nat.add_zero, hN] at hsp0
          rw [hE, hN] at hspc hEN
          rw [hE] at hej ⊢
          rw [hN] at hown hcn
          obtain ⟨ao, co, rfl, hco⟩ := own_form hown
          have hALL := hid hall
          have hEC := hid (show E ≤ 0 by have := HAH.out.2.1; omega)
          clear hN hE hmem hcl hown hall HAH
          go_wp2_with fail
          refine (split_any _ (C.cat xss) _ hALL.out (by rw [HNN.out]; omega)).mono ?_
          rintro e w6 ⟨v6, f6, p6, t6, rfl, hs6, hl6, b6⟩
          obtain ⟨d1, d2, d3⟩ := C.Sp.det hs6 hsp0.out
          subst d1 d2 d3
          have hf6 : ∃ a c, v6 = .slice a f6.length c := by
            obtain ⟨a, c, e, _⟩ := hl6
            exact ⟨a, c, e⟩
          obtain ⟨a6, c6, rfl⟩ := hf6
          have hL6 := hid hl6
          have bel6 := bt bel b6
          have HLX := hid (HL.out.below bel6)
          have hALL6 := hid (hALL.out.below b6)
          clear hl6 hs6 hsp0 HL bel b6 hALL hby
          go_wp2_with fail
          refine (samel_b _ _ f6 f6 _ hL6.out HLX.out).mono ?_
          rintro e w7 ⟨rfl, b7⟩
          rw [decide_eq_true rfl]
          have hL7 := hid (HLX.out.below b7)
          have hALL7 := hid (hALL6.out.below b7)
          have bel7 := bt bel6 b7
          have hnn : ((p6 : Int) != (p6 : Int)) = false := by simp
          have hjv : (j : Int) ≤ (cv : Int) := by omega
          have hj0 : Hid (Ls w7 (.slice av j cv) (f6.take j)) := Ls.take hL7.out j hjk
          clear hL6 HLX hALL6 bel6 b7
          have hE0 : E = 0 := by have := hEC.out; omega
          have hbig' : ¬ (p6 : Int) < 0 := by omega
          have hpc : (0 : Int) ≤ (co : Int) := by omega
          have hsc := hid (hspc.out 0 (Or.inl ⟨rfl, by omega⟩))
          have hT := hid (Bs.take hALL7.out 0 (by omega))
          rw [if_pos hE0] at hsc
          subst hE0
          clear hspc
          go_wp2_with fail
          refine (split_any _ _ _ hT.out (by rw [List.length_take]; omega)).mono ?_
          rintro e w8 ⟨v8, f8, p8, t8, rfl, hs8, hl8, b8⟩
          obtain ⟨d1, d2, d3⟩ := C.Sp.det hs8 hsc.out
          subst d2 d3
          rw [← d1] at hj0
          clear d1
          have hf8 : ∃ a c, v8 = .slice a f8.length c := by
            obtain ⟨a, c, e, _⟩ := hl8
            exact ⟨a, c, e⟩
          obtain ⟨a8, c8, rfl⟩ := hf8
          have hL8 := hid hl8
          have hJ8 := hid (hj0.out.below b8)
          have bel8 := bt bel7 b8
          clear hl8 hs8 hsc hT b8 bel7 hj0 hL7 hALL7
          go_wp2_with fail
          refine (samel_b _ _ _ _ _ hL8.out hJ8.out).mono ?_
          rintro e w9 ⟨rfl, b9⟩
          rw [decide_eq_true rfl]
          go_wp2
          go_ret
          exact ⟨rfl, bt bel8 b9⟩
    · obtain ⟨c, rfl⟩ := Int.eq_ofNat_of_zero_le (show 0 ≤ cut by omega)
      have hcut' : decide ((c : Int) < 0) = false := by simp
      go_wp2
      go_loopw [5, 6, 7, 8] (fun o hj he i wr => ∃ k j : Nat, k ≤ n ∧ i = .int .i64 k ∧ hj = .int .i64 j ∧ he = .int .i64 (C.cat (xss.take j)).length ∧ Ahead xss c k j ∧ wr.ownsRow w.heap.size 5 1 o (C.cat (xss.take k)).length (cs (C.cat (xss.take k))) ∧ Below w.heap.size w wr) (fun _ _ _ i _ => n - (intOf i).toNat)
      case atStart => exact ⟨0, 0, Nat.zero_le _, rfl, rfl, rfl, Ahead.start _ _, H0.out, b2⟩
      case round =>
        clear H0 b2
        obtain ⟨k, j, hk, rfl, rfl, rfl, hah, hown, bel⟩ := hrel
        have HAH := hid hah
        have hjk := hah.1
        clear hah
        have hej := hcl.out j
        by_cases hlt : k < n
        · have hlt' : (k : Int) < (n : Int) := by omega
          obtain ⟨bx, ox, cx, e1, _, _, hcx⟩ := (HL.out.below bel).inv (by rw [HN.out]; omega)
          simp only [Value.slice.injEq] at e1
          obtain ⟨rfl, -, rfl⟩ := e1
          obtain ⟨ux, gx, sx⟩ := hcx k (by rw [HN.out]; exact hlt)
          clear hcx
          have hst := hid (cat_step (xss := xss) (k := k) (by rw [HN.out]; exact hlt))
          have hlk := hmem.out k hlt
          have hck := hcl.out k
          obtain ⟨l, hl⟩ : ∃ l, xss.getD k [] = l := ⟨_, rfl⟩
          rw [hl] at sx hst hlk
          clear hl
          obtain ⟨L, hL⟩ : ∃ L, C.cat (xss.take k) = L := ⟨_, rfl⟩
          rw [hL] at hst hown hck
          clear hL
          obtain ⟨E, hE⟩ : ∃ E, (C.cat (xss.take j)).length = E := ⟨_, rfl⟩
          rw [hE] at hej ⊢
          have HE := hid hE
          clear hE
          have hfx : ∃ a c, ux = .slice a l.length c := by
            obtain ⟨a, c, e, _⟩ := sx
            exact ⟨a, c, e⟩
          obtain ⟨ax, dx, rfl⟩ := hfx
          have SX := hid sx
          clear sx
          go_wp2_with fail
          refine (frame_bs _ l _ SX.out (by omega)).mono ?_
          rintro e w2 ⟨vf, rfl, hvf, b2⟩
          have gx2 : w2.cell? ⟨bx, ox + k, none⟩ = some (.slice ax l.length dx) := by rw [b2.cell (World.block_lt_of_cell? _ _ gx)]; exact gx
          have hown2 := own_below hown b2
          have bel2 := bt bel b2
          have HVF := hid hvf
          have hvf' : ∃ a c, vf = .slice a (C.frame l).length c := by
            obtain ⟨a, c, e, _⟩ := hvf
            exact ⟨a, c, e⟩
          obtain ⟨af, cf, rfl⟩ := hvf'
          obtain ⟨F, hF⟩ : ∃ F, (C.frame l).length = F := ⟨_, rfl⟩
          have hF2 : F = 8 + l.length := by rw [← hF]; exact C.frame_length l
          have hne : ((F : Int) != 8 + (l.length : Int)) = false := by simp; omega
          have hF3 : F ≤ 3008 := by omega
          have hF8 : 8 ≤ F := by omega
          rw [hF] at HVF ⊢
          have HF := hid hF
          clear hown hvf b2 bel hF hF2 gx
          obtain ⟨M, hM⟩ : ∃ M, L.length + F = M := ⟨_, rfl⟩
          have hMb : M ≤ 30000 := by omega
          have hM8 : 8 ≤ M := by omega
          have hML : Hid ((C.cat (xss.take (k + 1))).length = M) := by rw [hst.out, List.length_append, HF.out]; exact hM
          have HM := hid hM
          clear hM
          by_cases hMc : M ≤ c
          · have hMc' : (M : Int) ≤ (c : Int) := by omega
            have hah2 := hid (HAH.out.more (by rw [hML.out]; exact hMc))
            go_wp2_with (at_builtin; refine wpList_append_bs rfl (.tmp 50) (.tmp 51) rfl w.heap.size _ _ L rfl hown2 _ (C.frame l) rfl HVF.out (by rw [HF.out]; omega) bel2.size ?_; intro v' w3 hown3 hgrow hat; rw [HF.out, HM.out] at hown3; obtain ⟨a3, c3, rfl, _⟩ := own_form hown3)
            have bel3 : Below w.heap.size w w3 := bel2.grown hgrow bel2.size (fun k hk => (hown2.lt k hk).1)
            have H3 := hid hown3
            go_roundw
            case rel =>
              have R : ∃ k' j' : Nat, k' ≤ n ∧ Value.int .i64 ((k : Int) + 1) = .int .i64 k' ∧ Value.int .i64 ((k : Int) + 1) = .int .i64 j' ∧ Value.int .i64 (M : Int) = .int .i64 (C.cat (xss.take j')).length ∧ Ahead xss c k' j' ∧ w3.ownsRow w.heap.size 5 1 (.slice a3 M c3) (C.cat (xss.take k')).length (cs (C.cat (xss.take k'))) ∧ Below w.heap.size w w3 :=
                ⟨k + 1, k + 1, by omega, by go_num, by go_num, by rw [hML.out], hah2.out, by rw [hML.out, hst.out]; exact H3.out, bel3⟩
              first | exact R | ((repeat apply Exists.intro); exact ⟨R, rfl⟩)
            case measure => simp [intOf]; omega
          · have hMc' : ¬ (M : Int) ≤ (c : Int) := by omega
            have hah2 := hid (HAH.out.same (by rw [hML.out]; omega))
            go_wp2_with (at_builtin; refine wpList_append_bs rfl (.tmp 50) (.tmp 51) rfl w.heap.size _ _ L rfl hown2 _ (C.frame l) rfl HVF.out (by rw [HF.out]; omega) bel2.size ?_; intro v' w3 hown3 hgrow hat; rw [HF.out, HM.out] at hown3; obtain ⟨a3, c3, rfl, _⟩ := own_form hown3)
            have bel3 : Below w.heap.size w w3 := bel2.grown hgrow bel2.size (fun k hk => (hown2.lt k hk).1)
            have H3 := hid hown3
            go_roundw
            case rel =>
              have R : ∃ k' j' : Nat, k' ≤ n ∧ Value.int .i64 ((k : Int) + 1) = .int .i64 k' ∧ Value.int .i64 (j : Int) = .int .i64 j' ∧ Value.int .i64 (E : Int) = .int .i64 (C.cat (xss.take j')).length ∧ Ahead xss c k' j' ∧ w3.ownsRow w.heap.size 5 1 (.slice a3 M c3) (C.cat (xss.take k')).length (cs (C.cat (xss.take k'))) ∧ Below w.heap.size w w3 :=
                ⟨k + 1, j, by omega, by go_num, rfl, by rw [HE.out], hah2.out, by rw [hML.out, hst.out]; exact H3.out, bel3⟩
              first | exact R | ((repeat apply Exists.intro); exact ⟨R, rfl⟩)
            case measure => simp [intOf]; omega
        · obtain rfl : k = n := by omega
          rw [List.take_of_length_le (by rw [HN.out]; exact Nat.le_refl _)] at hown
          have hcn := hcl.out k
          rw [List.take_of_length_le (by rw [HN.out]; exact Nat.le_refl _)] at hcn
          have hEN := cat_take_le xss j
          have hsp0 := hid (C.Sp.frames C.Sp.done xss hby.out)
          have hspc := hid (fun c1 hc => Ahead.sp (c1 := c1) (by rw [HN.out]; exact HAH.out) hby.out hc)
          obtain ⟨E, hE⟩ : ∃ E, (C.cat (xss.take j)).length = E := ⟨_, rfl⟩
          obtain ⟨N, hN⟩ : ∃ N, (C.cat xss).length = N := ⟨_, rfl⟩
          have HNN := hid hN
          have hall := Bs.of_own hown (by
            intro x hx
            obtain ⟨l, hl, hx'⟩ := List.mem_flatMap.1 hx
            exact C.frame_bytes (hby.out l hl).1 x hx')
          rw [List.append_nil, List.append_nil, Nat.add_zero, hN] at hsp0
          rw [hE, hN] at hspc hEN
          rw [hE] at hej ⊢
          rw [hN] at hown hcn
          obtain ⟨ao, co, rfl, hco⟩ := own_form hown
          have hALL := hid hall
          have hEC := hid (show E ≤ c by have := HAH.out.2.1; omega)
          clear hN hE hmem hcl hown hall HAH
          go_wp2_with fail
          refine (split_any _ (C.cat xss) _ hALL.out (by rw [HNN.out]; omega)).mono ?_
          rintro e w6 ⟨v6, f6, p6, t6, rfl, hs6, hl6, b6⟩
          obtain ⟨d1, d2, d3⟩ := C.Sp.det hs6 hsp0.out
          subst d1 d2 d3
          have hf6 : ∃ a c, v6 = .slice a f6.length c := by
            obtain ⟨a, c, e, _⟩ := hl6
            exact ⟨a, c, e⟩
          obtain ⟨a6, c6, rfl⟩ := hf6
          have hL6 := hid hl6
          have bel6 := bt bel b6
          have HLX := hid (HL.out.below bel6)
          have hALL6 := hid (hALL.out.below b6)
          clear hl6 hs6 hsp0 HL bel b6 hALL hby
          go_wp2_with fail
          refine (samel_b _ _ f6 f6 _ hL6.out HLX.out).mono ?_
          rintro e w7 ⟨rfl, b7⟩
          rw [decide_eq_true rfl]
          have hL7 := hid (HLX.out.below b7)
          have hALL7 := hid (hALL6.out.below b7)
          have bel7 := bt bel6 b7
          have hnn : ((p6 : Int) != (p6 : Int)) = false := by simp
          have hjv : (j : Int) ≤ (cv : Int) := by omega
          have hj0 : Hid (Ls w7 (.slice av j cv) (f6.take j)) := Ls.take hL7.out j hjk
          clear hL6 HLX hALL6 bel6 b7
          by_cases hbig : p6 < c
          · have hbig' : (p6 : Int) < (c : Int) := by omega
            have hpc : (p6 : Int) ≤ (co : Int) := by omega
            have hsc := hid (hspc.out p6 (Or.inr ⟨rfl, by omega⟩))
            have hT := hid (Bs.take hALL7.out p6 (Nat.le_refl _))
            by_cases hq : E = p6
            · rw [if_pos hq] at hsc
              subst hq
              have heq : ((E : Int) == (E : Int)) = true := by simp
              clear hspc hbig
              go_wp2_with fail
              refine (split_any _ _ _ hT.out (by rw [List.length_take]; omega)).mono ?_
              rintro e w8 ⟨v8, f8, p8, t8, rfl, hs8, hl8, b8⟩
              obtain ⟨d1, d2, d3⟩ := C.Sp.det hs8 hsc.out
              subst d2 d3
              rw [← d1] at hj0
              clear d1
              have hf8 : ∃ a c, v8 = .slice a f8.length c := by
                obtain ⟨a, c, e, _⟩ := hl8
                exact ⟨a, c, e⟩
              obtain ⟨a8, c8, rfl⟩ := hf8
              have hL8 := hid hl8
              have hJ8 := hid (hj0.out.below b8)
              have bel8 := bt bel7 b8
              clear hl8 hs8 hsc hT b8 bel7 hj0 hL7 hALL7
              go_wp2_with fail
              refine (samel_b _ _ _ _ _ hL8.out hJ8.out).mono ?_
              rintro e w9 ⟨rfl, b9⟩
              rw [decide_eq_true rfl]
              go_wp2
              go_ret
              exact ⟨rfl, bt bel8 b9⟩
            · rw [if_neg hq] at hsc
              have heq : ((E : Int) == (p6 : Int)) = false := by simp; omega
              have hee : ((E : Int) == (E : Int)) = true := by simp
              clear hspc hbig hq
              go_wp2_with fail
              refine (split_any _ _ _ hT.out (by rw [List.length_take]; omega)).mono ?_
              rintro e w8 ⟨v8, f8, p8, t8, rfl, hs8, hl8, b8⟩
              obtain ⟨d1, d2, d3⟩ := C.Sp.det hs8 hsc.out
              subst d2 d3
              rw [← d1] at hj0
              clear d1
              have hf8 : ∃ a c, v8 = .slice a f8.length c := by
                obtain ⟨a, c, e, _⟩ := hl8
                exact ⟨a, c, e⟩
              obtain ⟨a8, c8, rfl⟩ := hf8
              have hL8 := hid hl8
              have hJ8 := hid (hj0.out.below b8)
              have bel8 := bt bel7 b8
              clear hl8 hs8 hsc hT b8 bel7 hj0 hL7 hALL7
              go_wp2_with fail
              refine (samel_b _ _ _ _ _ hL8.out hJ8.out).mono ?_
              rintro e w9 ⟨rfl, b9⟩
              rw [decide_eq_true rfl]
              go_wp2
              go_ret
              exact ⟨rfl, bt bel8 b9⟩
          · have hbig' : ¬ (p6 : Int) < (c : Int) := by omega
            have hpc : (c : Int) ≤ (co : Int) := by omega
            have hsc := hid (hspc.out c (Or.inl ⟨rfl, by omega⟩))
            have hT := hid (Bs.take hALL7.out c (by omega))
            by_cases hq : E = c
            · rw [if_pos hq] at hsc
              subst hq
              have heq : ((E : Int) == (E : Int)) = true := by simp
              clear hspc hbig
              go_wp2_with fail
              refine (split_any _ _ _ hT.out (by rw [List.length_take]; omega)).mono ?_
              rintro e w8 ⟨v8, f8, p8, t8, rfl, hs8, hl8, b8⟩
              obtain ⟨d1, d2, d3⟩ := C.Sp.det hs8 hsc.out
              subst d2 d3
              rw [← d1] at hj0
              clear d1
              have hf8 : ∃ a c, v8 = .slice a f8.length c := by
                obtain ⟨a, c, e, _⟩ := hl8
                exact ⟨a, c, e⟩
              obtain ⟨a8, c8, rfl⟩ := hf8
              have hL8 := hid hl8
              have hJ8 := hid (hj0.out.below b8)
              have bel8 := bt bel7 b8
              clear hl8 hs8 hsc hT b8 bel7 hj0 hL7 hALL7
              go_wp2_with fail
              refine (samel_b _ _ _ _ _ hL8.out hJ8.out).mono ?_
              rintro e w9 ⟨rfl, b9⟩
              rw [decide_eq_true rfl]
              go_wp2
              go_ret
              exact ⟨rfl, bt bel8 b9⟩
            · rw [if_neg hq] at hsc
              have heq : ((E : Int) == (c : Int)) = false := by simp; omega
              have hee : ((E : Int) == (E : Int)) = true := by simp
              clear hspc hbig hq
              go_wp2_with fail
              refine (split_any _ _ _ hT.out (by rw [List.length_take]; omega)).mono ?_
              rintro e w8 ⟨v8, f8, p8, t8, rfl, hs8, hl8, b8⟩
              obtain ⟨d1, d2, d3⟩ := C.Sp.det hs8 hsc.out
              subst d2 d3
              rw [← d1] at hj0
              clear d1
              have hf8 : ∃ a c, v8 = .slice a f8.length c := by
                obtain ⟨a, c, e, _⟩ := hl8
                exact ⟨a, c, e⟩
              obtain ⟨a8, c8, rfl⟩ := hf8
              have hL8 := hid hl8
              have hJ8 := hid (hj0.out.below b8)
              have bel8 := bt bel7 b8
              clear hl8 hs8 hsc hT b8 bel7 hj0 hL7 hALL7
              go_wp2_with fail
              refine (samel_b _ _ _ _ _ hL8.out hJ8.out).mono ?_
              rintro e w9 ⟨rfl, b9⟩
              rw [decide_eq_true rfl]
              go_wp2
              go_ret
              exact ⟨rfl, bt bel8 b9⟩

namespace crcBack
open Go.ChangeShapes Go.WideShapes Go.ChangeAt
open Go.ChangeMaps (open_string shut_string)

theorem own : ownKnob Try.prog.godebug = none := by kernel_rfl
theorem laidOut : laidOutB Try.prog = true := by kernel_rfl

set_option maxRecDepth 100000 in
theorem lifted (os : Os) (started : os.Started) (H : Type) (enc : TypeId × Value → H) :
    ReturnsInHanded {} Try.checked os 4 .any (Rows.crcBackSpec.pre6 enc Try.prog Try.f4 Rows.crcBackRow.domain false) (Rows.crcBackSpec.post enc Try.prog Try.f4 false true false false) := by
  refine returnsInHanded_of_change_sized (C := Try.checked) own started (by kernel_rfl) Try.func4
    (ChangeSpec.witness6 (enc := enc) (C := Try.checked) false ⟨#[], #[.slice none 0 0, .int .i64 0], []⟩ 8 (by kernel_rfl) (by kernel_rfl) (by kernel_rfl) (by kernel_rfl)) ?_
  intro W base args ds gs before hval0 hW hcnd hsz _
  have hval : ∀ (j : Nat) t v, Try.f4.params[j]? = some t → args[j]? = some v → Value.okWide Try.prog W .any base t v := hval0
  have hW' := hW
  obtain ⟨p, q, hA0, hV, rfl, hfz, hnd⟩ := hW
  have hA : DataW.TrodAll enc Try.prog W 0 (fun _ => true) true Try.f4.params.toList args.toList ds p := hA0
  rw [Try.params4] at hA hval
  obtain ⟨v0, vs0, d0, ds0, p0, q0, hargs, rfl, rfl, h0, r0⟩ := trodAll_cons hA
  obtain ⟨v1, vs1, d1, ds1, p1, q1, rfl, rfl, rfl, h1, r1⟩ := trodAll_cons r0
  obtain ⟨rfl, rfl, rfl⟩ := trodAll_nil r1
  obtain rfl : args = #[v0, v1] := by cases args; simp_all
  obtain ⟨rfl, rfl⟩ := trodVars_none hV
  obtain ⟨a0, len0, cap0, rfl⟩ := okWide_slice Try.underlying29 (hval 0 29 v0 rfl rfl)
  have k0 := h0
  have lt0 : ∀ x ∈ p0, x.block < W.heap.size := by obtain ⟨m, hm⟩ := k0; exact DataW.trod_lt m _ _ _ hm
  obtain ⟨z0, w0⟩ := Ls.open h0 (fun n hn => by
    have := List.all_eq_true.1 hsz _ (DataW.weights_mem_each (j := 0) rfl rfl n hn)
    simpa using this)
  obtain ⟨a1, rfl, rfl, rfl, w1⟩ := open_int Try.underlying3 (hval 1 3 v1 rfl rfl) h1
  clear hA0 hval0
  refine (back_any _ z0 a1 W w0 w1).mono fun e W' ⟨he, bel⟩ => ?_
  subst he
  exact ⟨_, rfl, _, _, _, [], _, [], hW', trodAll_mk1 (shut_bool Try.underlying4 _), (trodAll_cons_mk (Below.trod laidOut (by kernel_rfl) (of_decide_eq_true (by kernel_rfl)) k0 bel lt0) (trodAll_cons_mk (shut_int Try.underlying3 w1) trodAll_mk0)), rfl, bel.frame _, fun h => by cases h⟩

theorem over : Rows.crcBackRow.holds Try.pinned (OpenSpec.ofChange Rows.crcBackSpec) :=
  OpenClaim.holds_of_wide 4 Try.f4 rfl rfl rfl rfl rfl rfl rfl ⟨rfl, rfl, rfl, rfl, rfl⟩ rfl rfl rfl rfl rfl (by kernel_rfl) Try.func4 (by kernel_rfl)
    (of_decide_eq_true (by kernel_rfl)) (by unfold Func.isWrapper; first | (rw [if_pos (by decide +kernel)]; kernel_rfl) | (rw [if_neg (by decide +kernel)]; exact ⟨rfl, rfl⟩))
    (fun os started H enc _ => lifted os started H enc)
end crcBack

/-- THE STATEMENT. -/
theorem crcBack_holds : Rows.CrcBackSaid := crcBack.over


end Go.Proofs.Ytkbfkdgdommngaa
