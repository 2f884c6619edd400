/-
  Parts of the proof, one behind the other; what each proves stands at its head.
-/
import Derived.Test.YtaojeanoojnknaaDoorPart31
import Derived.Test.YtaojeanoojnknaaDoorPart11

/-
  What the reference's buffer loses by 'without' is proved here.
-/
namespace Go.Proofs.YtaojeanoojnknaaDoor
open Go.RowKit
set_option linter.unusedVariables false
set_option maxRecDepth 100000

set_option maxHeartbeats 2000000 in
theorem without_any {N r : Nat} {v : Value} {l : List (Opn × Value)} (i : Nat) (w : World) (h : Xr N w r v l) (hi : i < l.length) (hl : l.length ≤ 1000) :
    Calls Tryd.prog 46 #[.pointer (some ⟨r, 0, none⟩), .int .i64 (i : Nat)] w fun e w' => e = .returned (.tuple #[]) ∧ ∃ v', Xr N w' r v' (l.eraseIdx i) ∧ (∀ k, v'.ownBlock = some k → w.heap.size ≤ k) ∧ Fr (fun k => k = r) w w' := by
  obtain ⟨n, hn⟩ : ∃ n, l.length = n := ⟨_, rfl⟩
  obtain ⟨A, c, hv, hc0, hc1⟩ := Sl.form h.os.1
  rw [hn] at hv hi hl hc0
  subst hv
  have HX := hid h
  have HN := hid hn
  have hic : i ≤ c := by omega
  have hi1 : i + 1 ≤ n := hi
  have B1 := hid (ba w (.cells #[] 43))
  have R1 := hid (Rx.made (Nat.le_refl w.heap.size))
  have z1 := (HX.out.below B1.out).cell
  obtain ⟨ua, un, uc, hsl, hso⟩ := sl_back h.os h.sp (i + 1) hi1
  have HSL := hid hsl
  have HSO := hid hso
  have HF := hid (fun (W : World) (hW : Os W (.slice A n c) l) => hW.front i (Nat.le_of_lt hi))
  clear h hn hsl hso
  obtain ⟨w1, hw1⟩ : ∃ w1, w.alloc (.cells #[] 43) = w1 := ⟨_, rfl⟩
  have HW1 := hid hw1
  rw [hw1] at B1 R1 z1
  clear hw1
  go_enter Tryd.func46, Tryd.ntmps46
  go_upto_region 1 with fail
  rw [HW1.out]
  have O1 := hid (HX.out.below B1.out).os
  have C1 := hid (HX.out.below B1.out)
  have hs1 : w.heap.size < w1.heap.size := by rw [← HW1.out]; simp
  have HS1 := hid hs1
  clear HW1 hs1
  have HLI : Hid (([] ++ l.take i).length = i) := hid (by rw [List.nil_append, List.length_take, HN.out]; omega)
  obtain ⟨m, hm⟩ : ∃ m, ([] ++ l.take i ++ l.drop (i + 1)).length = m := ⟨_, rfl⟩
  have HLJ := hid hm
  clear hm
  go_upto_region 2 with (first | (refine wpList_val _ rfl (run_slt rfl rfl rfl hic) ?_) | (refine wpList_append_ops rfl _ _ rfl w.heap.size _ _ _ rfl R1.out _ rfl (HF.out w1 O1.out) (R1.out.aw (HF.out w HX.out.os) (Nat.le_refl _)) (by rw [List.length_take]; show 0 + _ ≤ _; omega) (Nat.le_of_lt HS1.out) ?_; intro v5 w5 hr5 hf5 hv5; obtain ⟨a5,c5,hv5'⟩ := hr5.form; rw [HLI.out] at hv5'; subst hv5'; have R5 := hid hr5; have F5 := hid hf5; clear hr5 hf5 hv5) | fail)
  have B5 := hid (show Below w.heap.size w w5 from B1.out.trans (F5.out.below (fun k hk e => by have := (R1.out.1.lt k e).1; omega) (Nat.le_of_lt HS1.out)))
  have C5 := hid (HX.out.below B5.out)
  have z5 := C5.out.cell
  have e9 : IntKind.i64.wrap ((i : Int) + 1) = (i : Int) + 1 := by rw [IntKind.wrap_i64]; omega
  go_wp2_with (first | (refine wpList_val _ rfl (HSL.out _ _ _ _ _ rfl rfl rfl) ?_) | (refine wpList_append_ops rfl _ _ rfl w.heap.size _ _ _ rfl R5.out _ rfl (HSO.out w5 C5.out.os) (R5.out.aw (HSO.out w HX.out.os) (Nat.le_refl _)) (by rw [HLI.out,List.length_drop,HN.out]; omega) B5.out.size ?_; intro v6 w6 hr6 hf6 hv6; obtain ⟨a6,c6,hv6'⟩ := hr6.form; rw [HLJ.out] at hv6'; have R6 := hid hr6; have F6 := hid hf6; clear hr6 hf6 hv6; subst hv6') | (refine wpList_st_list (v := .slice A n c) rfl rfl rfl rfl (HX.out.below (B5.out.trans (F6.out.below (fun k hk e => by have := (R5.out.1.lt k e).1; omega) B5.out.size))).at' ?_; intro w7 hh7 hf7; have H7 := hid hh7; have F7 := hid hf7; clear hh7 hf7) | fail)
  go_end0
  have B6 : Below w.heap.size w w6 := B5.out.trans (F6.out.below (fun k hk e => by have := (R5.out.1.lt k e).1; omega) B5.out.size)
  obtain ⟨x1, x2⟩ := HX.out.put B6 R6.out.os R6.out.spt (fun k hk => Nat.le_trans HX.out.le (R6.out.1.lt k hk).1) (fun p hp => HX.out.cut p (by
    rw [List.nil_append] at hp
    rcases List.mem_append.1 hp with hp | hp
    · exact List.mem_of_mem_take hp
    · exact List.mem_of_mem_drop hp)) H7.out F7.out
  rw [List.nil_append, ← List.eraseIdx_eq_take_drop_succ] at x1
  exact ⟨rfl, _, x1, fun k hk => (R6.out.1.lt k hk).1, x2⟩

end Go.Proofs.YtaojeanoojnknaaDoor

/-
  What the reference's Ids answers is proved here.
-/
namespace Go.Proofs.YtaojeanoojnknaaDoor
open Go.RowKit
set_option linter.unusedVariables false
set_option maxRecDepth 100000

set_option maxHeartbeats 2000000 in
theorem xids_any {N r : Nat} {v : Value} {l : List (Opn × Value)} (w : World) (h : Xr N w r v l) (hl : l.length ≤ 1000) :
    Calls Tryd.prog 26 #[.pointer (some ⟨r, 0, none⟩)] w fun e w' => ∃ u, e = .returned u ∧ Ns w' u ((fsts l).map ido2) ∧ Below w.heap.size w w' := by
  obtain ⟨n, hn⟩ : ∃ n, l.length = n := ⟨_, rfl⟩
  obtain ⟨A, c, hv, hc0, hc1⟩ := Sl.form h.os.1
  rw [hn] at hv hl hc0
  subst hv
  have HX := hid h
  have HN := hid hn
  have B1 := hid (ba w (.cells #[] 38))
  have R1 := hid (World.ownsRow_made (size := 2) w (e := 38) #[] 0 (Nat.le_refl w.heap.size) (Nat.zero_le _) rfl)
  clear h hn
  obtain ⟨w1, hw1⟩ : ∃ w1, w.alloc (.cells #[] 38) = w1 := ⟨_, rfl⟩
  have HW1 := hid hw1
  rw [hw1] at B1 R1
  clear hw1
  go_enter Tryd.func26, Tryd.ntmps26
  go_upto_region 2 with fail
  rw [HW1.out]
  go_wp2
  go_loopw [3, 4] (fun out i wr => ∃ k : Nat, i = .int .i64 k ∧ k ≤ n ∧ wr.ownsRow w.heap.size 38 2 out k (((fsts (l.take k)).map ido2).flatMap idc) ∧ Below w.heap.size w wr) (fun _ i _ => n - (intOf i).toNat)
  case atStart => exact ⟨0, rfl, Nat.zero_le _, R1.out, B1.out⟩
  case round =>
    obtain ⟨k, rfl, hk, hrow, hb⟩ := hrel
    obtain ⟨oa, oc, rfl⟩ := own_shape hrow
    have HR := hid hrow
    have BR := hid hb
    have HXR := hid (HX.out.below hb)
    have z1 := HXR.out.cell
    clear hrow hb
    by_cases hlt : k < n
    · have hlt' : (k : Int) < (n : Int) := by omega
      have hx : k < l.length := by rw [HN.out]; exact hlt
      obtain ⟨b, off, c', e1, _, _, hbl, hcc⟩ := HXR.out.os.inv (by omega)
      rw [HN.out] at e1
      simp only [Value.slice.injEq] at e1
      obtain ⟨rfl, -, rfl⟩ := e1
      have hc := hcc k hx
      obtain ⟨⟨o, u⟩, hp⟩ : ∃ p, l[k] = p := ⟨_, rfl⟩
      rw [hp] at hc
      have z2 : wr.cell? ⟨b, off + k * 20 + 1, none⟩ = some (.int .i64 o.ir) := hc 1 (by decide)
      have z3 : wr.cell? ⟨b, off + k * 20 + 2, none⟩ = some (.int .i64 o.im) := hc 2 (by decide)
      have HP := hid hp
      have hA4 := ba wr (ido 38 o.ir o.im)
      have O4 : Hid ((wr.alloc (ido 38 o.ir o.im)).ownsRow w.heap.size 38 2 (.slice oa k oc) k (((fsts (l.take k)).map ido2).flatMap idc)) := hid (own_below2 HR.out (fun j hj => hA4.block j (HR.out.lt j hj).2))
      have S4 : Hid (Sl 2 (wr.alloc (ido 38 o.ir o.im)) (.slice (some ⟨wr.heap.size, 0, none⟩) 1 1) 1 ([(o.ir, o.im)].flatMap idc)) := hid (Sl.lit (sz := 2) wr 38 #[.int .i64 o.ir, .int .i64 o.im] 1 (by unfold maxLen; omega) rfl)
      have hbytes : (k + 1) * 16 ≤ 140737488355328 := by omega
      have hml : k + 1 ≤ maxLen := by unfold maxLen; omega
      have HB4 := hid (BR.out.trans (hA4.mono BR.out.size))
      clear hc hcc hp hA4
      go_wp2_with (first | (refine wpList_append_sl 61 38 2 16 (idv 0 0) Tryd.underlying61 info_id rfl (Nat.succ_pos 1) rfl _ _ rfl w.heap.size _ _ _ rfl O4.out _ 1 ([(o.ir,o.im)].flatMap idc) rfl S4.out (id_cells _) hbytes hml HB4.out.size ?_; intro v5 w5 hown5 hg5 hv5; obtain ⟨a5,c5,rfl⟩ := own_shape hown5; have HO5 := hid hown5; have HG5 := hid hg5; clear hown5 hg5 hv5) | fail)
      go_roundw
      case rel =>
        refine ⟨k + 1, by go_num, hlt, ?_, HB4.out.trans ((Fr.of_grown HG5.out (S := fun j => (Value.slice oa k oc).ownBlock = some j) (fun j e => e)).below (fun j hj e => by have := (O4.out.lt j e).1; omega) HB4.out.size)⟩
        have et : ((fsts (l.take (k + 1))).map ido2).flatMap idc = ((fsts (l.take k)).map ido2).flatMap idc ++ [(o.ir, o.im)].flatMap idc := by
          rw [List.take_succ_eq_append_getElem hx, HP.out]
          simp [fsts]
        rw [et]
        exact HO5.out
      case measure => simp [intOf]; omega
    · obtain rfl : k = n := by omega
      have hnl : ¬ (k : Int) < (k : Int) := by omega
      go_wp2
      go_ret
      refine ⟨_, rfl, ?_, BR.out⟩
      have := Sl.of_own HR.out
      rw [List.take_of_length_le (by rw [HN.out]; exact Nat.le_refl _)] at this
      have e2 : (fsts l).map ido2 = l.map (ido2 ∘ Prod.fst) := by unfold fsts; rw [List.map_map]
      rw [e2] at this
      unfold Ns
      rw [List.length_map, HN.out]
      exact this

end Go.Proofs.YtaojeanoojnknaaDoor
