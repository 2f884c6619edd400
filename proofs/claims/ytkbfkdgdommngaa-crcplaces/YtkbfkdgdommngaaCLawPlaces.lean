/-
  For all rows of bytes and every list of bytes the law CrcPlaces returns true: at the place behind whole frames stands what stands at the beginning of the bytes that are left. No condition.
-/
import Derived.Test.YtkbfkdgdommngaaCAlive
import Derived.Test.YtkbfkdgdommngaaCSplit
import Derived.Test.YtkbfkdgdommngaaSameL
import Derived.Test.YtkbfkdgdommngaaAppend
import Derived.ProofKit
import Derived.OpenShut
import Derived.ShutString
import Derived.ChangeOld
import Derived.Below
import Derived.SizedLaws
namespace Go.Proofs.Ytkbfkdgdommngaa
open Go.RowKit
set_option linter.unusedVariables false

theorem cat_le (xss : List (List Int)) : (C.cat xss).length ≤ 8 * wgt xss := by
  induction xss with
  | nil => simp [C.cat]
  | cons l r ih => rw [C.cat_cons, List.length_append, C.frame_length]; simp only [wgt]; omega
theorem wgt_take_le (xss : List (List Int)) (k : Nat) : wgt (xss.take k) ≤ wgt xss := by
  have h := wgt_append (xss.take k) (xss.drop k)
  rw [List.take_append_drop] at h
  omega
theorem cat_step {xss : List (List Int)} {k : Nat} (h : k < xss.length) : C.cat (xss.take (k + 1)) = C.cat (xss.take k) ++ C.frame (xss.getD k []) := by
  rw [List.take_succ_eq_append_getElem h, C.cat_snoc]
  simp [List.getD, h]

theorem Sp_le {xs : List Int} {fs : List (List Int)} {p t : Nat} (h : C.Sp xs fs p t) : p ≤ xs.length := by
  induction fs generalizing xs p t with
  | nil => rw [h.1]; exact Nat.zero_le _
  | cons f fs ih =>
    obtain ⟨h1, _, m, rfl, h4⟩ := h
    have := wh_0 h1
    have := ih h4
    rw [List.length_drop] at this
    omega

set_option maxRecDepth 100000 in
set_option maxHeartbeats 4000000 in
theorem places_any (v : Value) (xss : List (List Int)) (u : Value) (rs : List Int) (w : World) (h : Ls w v xss ∧ ∀ l ∈ xss, l.length ≤ 140737488355328) (hu : Bs w u rs) :
    Calls Try.prog 7 #[v, u] w fun e w' => e = .returned (.bool true) ∧ Below w.heap.size w w' := by
  obtain ⟨h, hsz⟩ := h
  have hlr := hu.len
  have hlx := h.len
  unfold maxLen at hlr hlx
  have HU := hid hu
  have HL := hid h
  have HZ := hid hsz
  have hv : ∃ a c, v = .slice a xss.length c := by
    obtain ⟨a, c, e, _⟩ := h
    exact ⟨a, c, e⟩
  have hu' : ∃ a c, u = .slice a rs.length c := by
    obtain ⟨a, c, e, _⟩ := hu
    exact ⟨a, c, e⟩
  obtain ⟨av, cv, rfl⟩ := hv
  obtain ⟨au, cu, rfl⟩ := hu'
  clear h hu hsz
  obtain ⟨n, hn⟩ : ∃ n, xss.length = n := ⟨_, rfl⟩
  rw [hn] at hlx HL ⊢
  have HN := hid hn
  clear hn
  obtain ⟨m, hm⟩ : ∃ m, rs.length = m := ⟨_, rfl⟩
  rw [hm] at hlr HU ⊢
  have HM := hid hm
  clear hm
  go_enter Try.func7, Try.ntmps7
  go_wp2_with fail
  refine (alive_any _).mono ?_
  rintro e w1 ⟨rfl, b1⟩
  go_wp2_with fail
  refine (weigh_any _ xss 2000 _ (HL.out.below b1) HZ.out (by decide)).mono ?_
  rintro e w1' ⟨r, rfl, rfl, hr⟩
  have HW := hid hr
  clear hr HZ
  by_cases hr2 : 2000 < r
  · go_wp2
    go_ret
    exact ⟨rfl, b1⟩
  · have hr2' : decide (2000 < r) = false := by simpa using hr2
    by_cases hm2 : 2000 < m
    · have hm2' : (2000 : Int) < (m : Int) := by omega
      go_wp2
      go_ret
      exact ⟨rfl, b1⟩
    · have hm2' : decide ((2000 : Int) < (m : Int)) = false := by simp; omega
      have hwgt : wgt xss ≤ 2000 := by have := HW.out (by omega); omega
      have hcat := cat_le xss
      go_wp2
      have b2 : Below w.heap.size w (w1.alloc (.cells #[] 5)) := b1.alloc b1.size _
      have hown0 : (w1.alloc (.cells #[] 5)).ownsRow w.heap.size 5 1 (.slice (some ⟨w1.heap.size, 0, none⟩) 0 0) 0 (cs []) := World.ownsRow_made w1 #[] 0 b1.size (Nat.zero_le _) rfl
      have hmem := hid (fun k (hk : k < n) => (by
        have hk' : k < xss.length := by rw [HN.out]; exact hk
        have h1 : xss.getD k [] = xss[k] := by simp [List.getD, hk']
        have h2 := wgt_mem (List.getElem_mem hk')
        rw [h1]
        omega : (xss.getD k []).length ≤ 2000))
      have hcl := hid (fun k => (by
        have h1 := cat_le (xss.take k)
        have h2 := wgt_take_le xss k
        omega : (C.cat (xss.take k)).length ≤ 16000))
      have hby := hid (fun l hl => (⟨HL.out.bytes l hl, by have := wgt_mem hl; omega⟩ : C.Bytes l ∧ l.length ≤ 65536))
      have hm3 : m ≤ 2000 := by omega
      clear HW hr2 hm2 hcat hwgt
      go_loopw [5, 6] (fun o i wr => ∃ k : Nat, k ≤ n ∧ i = .int .i64 k ∧ wr.ownsRow w.heap.size 5 1 o (C.cat (xss.take k)).length (cs (C.cat (xss.take k))) ∧ Below w.heap.size w wr) (fun _ i _ => n - (intOf i).toNat)
      case atStart => exact ⟨0, Nat.zero_le _, rfl, hown0, b2⟩
      case round =>
        clear hown0 b1 b2
        obtain ⟨k, hk, rfl, hown, bel⟩ := hrel
        by_cases hlt : k < n
        · have hlt' : (k : Int) < (n : Int) := by omega
          obtain ⟨bx, ox, cx, e1, _, _, hcx⟩ := (HL.out.below bel).inv (by rw [HN.out]; omega)
          simp only [Value.slice.injEq] at e1
          obtain ⟨rfl, -, rfl⟩ := e1
          obtain ⟨ux, gx, sx⟩ := hcx k (by rw [HN.out]; exact hlt)
          clear hcx
          have hst := hid (cat_step (xss := xss) (k := k) (by rw [HN.out]; exact hlt))
          have hlk := hmem.out k hlt
          have hck := hcl.out k
          obtain ⟨l, hl⟩ : ∃ l, xss.getD k [] = l := ⟨_, rfl⟩
          rw [hl] at sx hst hlk
          clear hl
          obtain ⟨L, hL⟩ : ∃ L, C.cat (xss.take k) = L := ⟨_, rfl⟩
          rw [hL] at hst hown hck
          clear hL
          have hfx : ∃ a c, ux = .slice a l.length c := by
            obtain ⟨a, c, e, _⟩ := sx
            exact ⟨a, c, e⟩
          obtain ⟨ax, dx, rfl⟩ := hfx
          have SX := hid sx
          clear sx
          go_wp2_with fail
          refine (frame_bs _ l _ SX.out (by omega)).mono ?_
          rintro e w2 ⟨vf, rfl, hvf, b2⟩
          have hown2 := own_below hown b2
          have bel2 := bt bel b2
          have HVF := hid hvf
          have hvf' : ∃ a c, vf = .slice a (C.frame l).length c := by
            obtain ⟨a, c, e, _⟩ := hvf
            exact ⟨a, c, e⟩
          obtain ⟨af, cf, rfl⟩ := hvf'
          have hfl := hid (C.frame_length l)
          clear hown hvf b2 bel
          go_wp2_with (at_builtin; refine wpList_append_bs rfl (.tmp 47) (.tmp 48) rfl w.heap.size _ _ L rfl hown2 _ (C.frame l) rfl HVF.out (by rw [hfl.out]; omega) bel2.size ?_; intro v' w3 hown3 hgrow hat)
          have bel3 : Below w.heap.size w w3 := bel2.grown hgrow bel2.size (fun k hk => (hown2.lt k hk).1)
          have H3 := hid hown3
          clear hown3 hown2 hgrow hat bel2
          go_wp2
          go_roundw
          case rel =>
            have R : ∃ k' : Nat, k' ≤ n ∧ Value.int .i64 ((k : Int) + 1) = .int .i64 k' ∧ w3.ownsRow w.heap.size 5 1 v' (C.cat (xss.take k')).length (cs (C.cat (xss.take k'))) ∧ Below w.heap.size w w3 :=
              ⟨k + 1, by omega, by go_num, by rw [hst.out, List.length_append]; exact H3.out, bel3⟩
            first | exact R | ((repeat apply Exists.intro); exact ⟨R, rfl⟩)
          case measure => simp [intOf]; omega
        · obtain rfl : k = n := by omega
          rw [List.take_of_length_le (by rw [HN.out]; exact Nat.le_refl _)] at hown
          have hcn := hcl.out k
          rw [List.take_of_length_le (by rw [HN.out]; exact Nat.le_refl _)] at hcn
          obtain ⟨N, hN⟩ : ∃ N, (C.cat xss).length = N := ⟨_, rfl⟩
          have HNN := hid hN
          rw [hN] at hown hcn
          obtain ⟨ao, co, rfl, hco⟩ := own_form hown
          clear hN hmem hcl
          go_wp2_with (at_builtin; refine wpList_append_bs rfl (.tmp 52) (.tmp 53) rfl w.heap.size _ _ (C.cat xss) rfl hown _ rs rfl (HU.out.below bel) (by rw [HM.out]; omega) bel.size ?_; intro v' w3 hown3 hgrow hat)
          have bel3 : Below w.heap.size w w3 := bel.grown hgrow bel.size (fun k hk => (hown.lt k hk).1)
          rw [HM.out] at hown3
          obtain ⟨a3, c3, rfl, hc3⟩ := own_form hown3
          have hall := hid (Bs.of_own hown3 (by
            intro x hx
            rcases List.mem_append.1 hx with h | h
            · obtain ⟨l, hl, hx'⟩ := List.mem_flatMap.1 h
              exact C.frame_bytes (hby.out l hl).1 x hx'
            · exact HU.out.range x h))
          have hU3 := hid (HU.out.below bel3)
          have hdrop := hid (show (C.cat xss ++ rs).drop N = rs by rw [← HNN.out, List.drop_left])
          have hlen := hid (show (C.cat xss ++ rs).length = N + m by rw [List.length_append, HNN.out, HM.out])
          have hsp := hid (fun fs p t (h : C.Sp rs fs p t) => C.Sp.frames h xss hby.out)
          rw [HNN.out] at hsp
          obtain ⟨Y, hY⟩ : ∃ Y, C.cat xss ++ rs = Y := ⟨_, rfl⟩
          rw [hY] at hall hdrop hlen hsp
          clear hown hown3 hgrow hat bel hY hby HL HU HNN
          go_wp2_with fail
          refine (next_any _ Y N _ hall.out (by rw [hlen.out]; omega) (by rw [hlen.out]; omega)).mono ?_
          rintro e w4 ⟨v4, rfl, hB4, b4, _⟩
          have en : nxV Y N = nxV rs 0 := by unfold nxV; rw [hdrop.out, List.drop_zero]
          have ep : nxP Y N = N + nxP rs 0 := by
            unfold nxP
            rw [hdrop.out, List.drop_zero]
            split <;> omega
          rw [en] at hB4
          rw [ep, hdrop.out]
          have bnd : nxP rs 0 ≤ 2000000 := by
            unfold nxP
            rw [List.drop_zero]
            split
            · have := (wh_0 (by assumption)); omega
            · omega
          clear en ep
          go_wp2_with fail
          refine (next_any _ rs 0 _ (hU3.out.below b4) (Nat.zero_le _) (by rw [HM.out]; omega)).mono ?_
          rintro e w5 ⟨v5, rfl, hB5, b5, _⟩
          rw [List.drop_zero]
          obtain ⟨P, hP⟩ : ∃ P, nxP rs 0 = P := ⟨_, rfl⟩
          obtain ⟨X, hX⟩ : ∃ X, nxV rs 0 = X := ⟨_, rfl⟩
          obtain ⟨W, hW⟩ : ∃ W, C.wh rs = W := ⟨_, rfl⟩
          rw [hP] at bnd ⊢
          rw [hX] at hB4 hB5
          rw [hW]
          clear hP hX hW
          have hB45 := hid (hB4.below b5)
          have HB5 := hid hB5
          have hf4 : ∃ a c, v4 = .slice a X.length c := by
            obtain ⟨a, c, e, _⟩ := hB4
            exact ⟨a, c, e⟩
          have hf5 : ∃ a c, v5 = .slice a X.length c := by
            obtain ⟨a, c, e, _⟩ := hB5
            exact ⟨a, c, e⟩
          obtain ⟨a4, c4, rfl⟩ := hf4
          obtain ⟨a5, c5, rfl⟩ := hf5
          have hA5 := hid (hall.out.below (bt b4 b5))
          have hU5 := hid (hU3.out.below (bt b4 b5))
          have bel5 := bt bel3 (bt b4 b5)
          clear hB4 hB5 b4 b5 bel3 hall hU3
          go_wp2_with fail
          refine (split_any _ Y _ hA5.out (by rw [hlen.out]; omega)).mono ?_
          rintro e w6 ⟨v6, f6, p6, t6, rfl, hs6, hl6, b6⟩
          have hf6 : ∃ a c, v6 = .slice a f6.length c := by
            obtain ⟨a, c, e, _⟩ := hl6
            exact ⟨a, c, e⟩
          obtain ⟨a6, c6, rfl⟩ := hf6
          have hlb6 := hl6.len
          clear hl6
          go_wp2_with fail
          refine (split_any _ rs _ (hU5.out.below b6) (by rw [HM.out]; omega)).mono ?_
          rintro e w7 ⟨v7, f7, p7, t7, rfl, hs7, hl7, b7⟩
          have hf7 : ∃ a c, v7 = .slice a f7.length c := by
            obtain ⟨a, c, e, _⟩ := hl7
            exact ⟨a, c, e⟩
          obtain ⟨a7, c7, rfl⟩ := hf7
          have hlb7 := hl7.len
          unfold maxLen at hlb6 hlb7
          clear hl7
          have hd := C.Sp.det hs6 (hsp.out _ _ _ hs7)
          obtain ⟨d1, d2, d3⟩ := hd
          have d1' : f6.length = k + f7.length := by rw [d1, List.length_append, HN.out]
          have b8 := bt bel5 (bt b6 b7)
          have hB7 := hid (hB45.out.below (bt b6 b7))
          have hB7' := hid (HB5.out.below (bt b6 b7))
          have hp7 : p7 ≤ m := by have := Sp_le hs7; rw [HM.out] at this; exact this
          subst d2 d3
          rw [d1']
          have q1 : (((N + P : Nat) : Int) == (N : Int) + (P : Int)) = true := by simp
          have q2 : ((t6 : Int) == (t6 : Int)) = true := by simp
          have q3 : ((((k + f7.length : Nat)) : Int) == (k : Int) + (f7.length : Int)) = true := by simp
          have q4 : (((N + p7 : Nat) : Int) == (N : Int) + (p7 : Int)) = true := by simp
          have q5 : ((W : Int) == (W : Int)) = true := by simp
          rw [d1'] at hlb6
          clear d1 d1' hs6 hs7 hsp hA5 hU5 hB45 HB5 b6 b7 bel5
          go_wp2_with fail
          refine (same_b _ _ X X _ hB7.out hB7'.out).mono ?_
          rintro e w8 ⟨rfl, b9⟩
          rw [decide_eq_true rfl]
          go_wp2
          go_ret
          exact ⟨rfl, bt b8 b9⟩


namespace crcPlaces
open Go.ChangeShapes Go.WideShapes Go.ChangeAt
open Go.ChangeMaps (open_string shut_string)

theorem own : ownKnob Try.prog.godebug = none := by kernel_rfl
theorem laidOut : laidOutB Try.prog = true := by kernel_rfl

set_option maxRecDepth 100000 in
theorem lifted (os : Os) (started : os.Started) (H : Type) (enc : TypeId × Value → H) :
    ReturnsInHanded {} Try.checked os 7 .any (Rows.crcPlacesSpec.pre6 enc Try.prog Try.f7 Rows.crcPlacesRow.domain false) (Rows.crcPlacesSpec.post enc Try.prog Try.f7 false true false false) := by
  refine returnsInHanded_of_change_sized (C := Try.checked) own started (by kernel_rfl) Try.func7
    (ChangeSpec.witness6 (enc := enc) (C := Try.checked) false ⟨#[], #[.slice none 0 0, .slice none 0 0], []⟩ 8 (by kernel_rfl) (by kernel_rfl) (by kernel_rfl) (by kernel_rfl)) ?_
  intro W base args ds gs before hval0 hW hcnd hsz _
  have hval : ∀ (j : Nat) t v, Try.f7.params[j]? = some t → args[j]? = some v → Value.okWide Try.prog W .any base t v := hval0
  have hW' := hW
  obtain ⟨p, q, hA0, hV, rfl, hfz, hnd⟩ := hW
  have hA : DataW.TrodAll enc Try.prog W 0 (fun _ => true) true Try.f7.params.toList args.toList ds p := hA0
  rw [Try.params7] at hA hval
  obtain ⟨v0, vs0, d0, ds0, p0, q0, hargs, rfl, rfl, h0, r0⟩ := trodAll_cons hA
  obtain ⟨v1, vs1, d1, ds1, p1, q1, rfl, rfl, rfl, h1, r1⟩ := trodAll_cons r0
  obtain ⟨rfl, rfl, rfl⟩ := trodAll_nil r1
  obtain rfl : args = #[v0, v1] := by cases args; simp_all
  obtain ⟨rfl, rfl⟩ := trodVars_none hV
  obtain ⟨a0, len0, cap0, rfl⟩ := okWide_slice Try.underlying29 (hval 0 29 v0 rfl rfl)
  have k0 := h0
  have lt0 : ∀ x ∈ p0, x.block < W.heap.size := by obtain ⟨m, hm⟩ := k0; exact DataW.trod_lt m _ _ _ hm
  obtain ⟨z0, w0⟩ := Ls.open h0 (fun n hn => by
    have := List.all_eq_true.1 hsz _ (DataW.weights_mem_each (j := 0) rfl rfl n hn)
    simpa using this)
  obtain ⟨a1, len1, cap1, rfl⟩ := okWide_slice Try.underlying22 (hval 1 22 v1 rfl rfl)
  have k1 := h1
  have lt1 : ∀ x ∈ p1, x.block < W.heap.size := by obtain ⟨m, hm⟩ := k1; exact DataW.trod_lt m _ _ _ hm
  obtain ⟨z1, w1⟩ : ∃ xs, Bs W (.slice a1 len1 cap1) xs := by
    obtain ⟨fuel, hf⟩ := h1
    rcases open_ints Try.underlying22 Try.underlying5 (by kernel_rfl) hf with ⟨hcs, _⟩ | ⟨x, l, c, zs, hcs, _, hl, hm, hz, _, hcell, hwz⟩
    · simp [Value.cells] at hcs
      obtain ⟨rfl, rfl, rfl⟩ := hcs
      exact ⟨[], Bs.nil W⟩
    · simp [Value.cells] at hcs
      obtain ⟨rfl, rfl, rfl⟩ := hcs
      exact ⟨zs.take len1, Bs.of_row hl hm (by simpa using hz) hcell hwz⟩
  clear hA0 hval0
  refine (places_any _ z0 _ z1 W w0 w1).mono fun e W' ⟨he, bel⟩ => ?_
  subst he
  exact ⟨_, rfl, _, _, _, [], _, [], hW', trodAll_mk1 (shut_bool Try.underlying4 _), (trodAll_cons_mk (Below.trod laidOut (by kernel_rfl) (of_decide_eq_true (by kernel_rfl)) k0 bel lt0) (trodAll_cons_mk (Below.trod laidOut (by kernel_rfl) (of_decide_eq_true (by kernel_rfl)) k1 bel lt1) trodAll_mk0)), rfl, bel.frame _, fun h => by cases h⟩

theorem over : Rows.crcPlacesRow.holds Try.pinned (OpenSpec.ofChange Rows.crcPlacesSpec) :=
  OpenClaim.holds_of_wide 7 Try.f7 rfl rfl rfl rfl rfl rfl rfl ⟨rfl, rfl, rfl, rfl, rfl⟩ rfl rfl rfl rfl rfl (by kernel_rfl) Try.func7 (by kernel_rfl)
    (of_decide_eq_true (by kernel_rfl)) (by unfold Func.isWrapper; first | (rw [if_pos (by decide +kernel)]; kernel_rfl) | (rw [if_neg (by decide +kernel)]; exact ⟨rfl, rfl⟩))
    (fun os started H enc _ => lifted os started H enc)
end crcPlaces

/-- THE STATEMENT. -/
theorem crcPlaces_holds : Rows.CrcPlacesSaid := crcPlaces.over


end Go.Proofs.Ytkbfkdgdommngaa
