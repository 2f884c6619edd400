/-
  Parts of the proof, one behind the other; what each proves stands at its head.
-/
import Derived.Test.YtniecbblhphbdaaDoorPart14
import Derived.Test.YtniecbblhphbdaaDoorPart5
import Derived.Test.YtniecbblhphbdaaDoorPart19
import Derived.Test.YtniecbblhphbdaaDoorPart12
import Derived.Test.YtniecbblhphbdaaDoorPart15
import Derived.Test.YtniecbblhphbdaaDoorCards
import Derived.Test.YtniecbblhphbdaaDoorTie
import Derived.Test.YtniecbblhphbdaaDoorPart11
import Derived.Deep.SlicePairs
import Derived.LaidMore
import Derived.Deep.DeepWitnessRowRef
import Derived.SevenTiedAt

/-
  What EncodeAll answers is proved here, for every row of at most a thousand ops.
-/
namespace Go.Proofs.YtniecbblhphbdaaDoor
open Go.RowKit
set_option linter.unusedVariables false
set_option maxRecDepth 100000

theorem encT_len {o : Opn} (h : rightO o = true) : (encT o).length ≤ 5010 := by
  have hb := encO_byt h
  have hs : (M.str (encO o)).size = (encO o).length := by
    have := congrArg List.length (tx_str hb)
    rw [tx_length] at this
    exact this
  have h1 := encO_len h
  have h2 := (M.sz_pos (M.str (encO o)).size).2
  unfold encT
  rw [encText_length, hs] at *
  omega
theorem encTs_len : ∀ (l : List Opn), (∀ q ∈ l, rightO q = true) → (l.flatMap encT).length ≤ 5010 * l.length := by
  intro l
  induction l with
  | nil => intro _; simp
  | cons o l ih =>
    intro h
    have h1 := encT_len (h o List.mem_cons_self)
    have h2 := ih (fun q hq => h q (List.mem_cons_of_mem _ hq))
    rw [List.flatMap_cons, List.length_append, List.length_cons]
    omega
theorem run_conv {p : Oper} {ac : Act} {W : World} {x : Operand} {v : Value} {xs : List Int} (ho : p.op = .convert 22 9 x) (hx : ac.eval x = v) (h : Bs W v xs) : (execOp ac.eval p).run Tryd.prog W = .ok (.value (.string (M.str xs))) W := by
  unfold execOp
  simp only [ho, hx, Sem.run_bind, conv_str h, Result.andThen_ok, Sem.run_pure]

set_option maxHeartbeats 4000000 in
theorem encodeall_any (va : Value) (l : List (Opn × Value)) (w : World) (hL : Lay w) (hO : Os w va l) (hf : ∀ p ∈ l, p.1.fine) (hn : l.length ≤ 1000) :
    Calls Tryd.prog 16 #[va] w fun e w' => ∃ u, e = .returned (.tuple #[u, .bool ((fsts l).all rightO)]) ∧ Bs w' u (if (fsts l).all rightO then encA (fsts l) else []) ∧ Below w.heap.size w w' := by
  obtain ⟨a, c, rfl, _, _⟩ := Sl.form hO.1
  obtain ⟨n, hnn⟩ : ∃ n, l.length = n := ⟨_, rfl⟩
  have HN := hid hnn
  have hcell : ∀ i (h : i < l.length), ∃ b off, a = some ⟨b, off, none⟩ ∧ b < w.heap.size ∧ ∀ j, j < 20 → w.cell? ⟨b, off + i * 20 + j, none⟩ = (opl (l[i]).1 (l[i]).2)[j]? := by
    intro i h
    obtain ⟨b, off, c', e, _, _, hb, hc⟩ := hO.inv (by omega)
    simp only [Value.slice.injEq] at e
    exact ⟨b, off, e.1, hb, hc i h⟩
  have HCE := hid hcell
  have HV := hid hO.2
  have HF := hid hf
  have HL := hid hL
  have HOS := hid hO.1
  rw [hnn] at hn ⊢
  obtain ⟨T, hT⟩ : ∃ T, (fsts l).all rightO = T := ⟨_, rfl⟩
  rw [hT]
  have HT := hid hT
  obtain ⟨X, hX⟩ : ∃ X, (if T then encA (fsts l) else []) = X := ⟨_, rfl⟩
  rw [hX]
  have HX := hid hX
  clear hcell hO hf hL hnn hT hX
  have HA := hid (ba w (.cells #[.slice none 0 0] 74))
  have hW1 : Wr w.heap.size (w.alloc (.cells #[.slice none 0 0] 74)) w.heap.size (.slice none 0 0) [] := ⟨heap_alloc_new w _, World.ownsRow_nil _ _ _ _, fun x hx => by cases hx⟩
  have HI := hid (numbers_new w.heap.size w.heap.size (.slice none 0 0) [] [(n : Int)] _ hW1 HA.out.size (by intro x hx; rw [List.mem_singleton.1 hx]; unfold Num49; omega) (by simp) (by simp) (by simp))
  rw [show (w.alloc (.cells #[.slice none 0 0] 74)).heap.size = w.heap.size + 1 by simp] at HI
  clear hW1
  go_enter Tryd.func16, Tryd.ntmps16
  go_wp2_with fail
  refine HI.out.mono ?_
  rintro e w2 ⟨rfl, v2, hW2, hx2⟩
  have hb2 : Below w.heap.size (w.alloc (.cells #[.slice none 0 0] 74)) w2 := hx2.1.below (fun k hk hs => by
    rcases hs with hs | hs
    · omega
    · cases hs) HA.out.size
  have HB2 := hid (HA.out.trans hb2)
  have HW2 := hid hW2
  clear hW2 hx2 hb2 HI
  go_wp2
  go_loopw [16] (fun i wr => ∃ (k : Nat) (v' : Value), k ≤ n ∧ i = .int .i64 k ∧ Wr w.heap.size wr w.heap.size v' (M.enc (n : Int) ++ (fsts (l.take k)).flatMap encT) ∧ Below w.heap.size w wr ∧ ∀ q ∈ fsts (l.take k), rightO q = true) (fun i _ => n - (intOf i).toNat)
  case atStart => exact ⟨0, v2, Nat.zero_le _, rfl, by simpa using HW2.out, HB2.out, fun q hq => by simp at hq⟩
  case round =>
    obtain ⟨k, v4, hk, rfl, hw4, hb4, hr4⟩ := hrel
    have HW4 := hid hw4
    have B4 := hid hb4
    have HR4 := hid hr4
    clear hw4 hb4 hr4
    by_cases hlt : k < n
    · have hx : k < l.length := by have := HN.out; omega
      obtain ⟨b, off, ha, hbl, hc⟩ := HCE.out k hx
      subst ha
      obtain ⟨⟨o, v⟩, hp⟩ : ∃ p, l[k] = p := ⟨_, rfl⟩
      have hfin := HF.out _ (List.getElem_mem hx)
      have hcs := HV.out _ (List.getElem_mem hx)
      rw [hp] at hc hfin hcs
      dsimp only at hc hfin hcs
      have HP := hid hp
      have HC : Hid (∀ j, j < 20 → wr.cell? ⟨b, off + k * 20 + j, none⟩ = (opl o v)[j]?) := hid (fun j hj => (B4.out.cell hbl).trans (hc j hj))
      have HFI := hid hfin
      have HCS := hid (hcs.below B4.out)
      have hvf : ∃ va n vc, v = .slice va n vc := by
        obtain ⟨va, vc, e, _⟩ := hcs.form
        exact ⟨va, _, vc, e⟩
      have HVF := hid hvf
      have HA5 := hid (ba wr (opo o v))
      have HO5 := hid (Ob.new wr o v)
      have HCS5 := hid (HCS.out.below HA5.out)
      have HL5 := hid ((HL.out.below B4.out).below HA5.out)
      have HW5 := hid (HW4.out.below HA5.out)
      have B5 := hid (bt B4.out HA5.out)
      have b1' : (k : Int) < (n : Int) := by omega
      clear hp hc hfin hcs hvf hbl
      cases hr : rightO o
      · have HE := hid (encode_no o v _ HL5.out HCS5.out HFI.out hr)
        have hTf : false = T := by
          rw [← HT.out]
          symm
          rw [List.all_eq_false]
          refine ⟨o, ?_, by rw [hr]; decide⟩
          have := List.getElem_mem hx
          rw [HP.out] at this
          exact List.mem_map.2 ⟨_, this, rfl⟩
        have HTF := hid hTf
        clear hr hTf
        go_wp2_with (first | (refine wpList_val _ rfl (run_load_opat rfl rfl HC.out) ?_) | (refine wpList_store_ops rfl _ _ rfl 0 o v HVF.out rfl rfl ?_) | (refine wpList_load_op rfl _ rfl wr.heap.size rfl o v HO5.out ?_) | fail)
        refine HE.out.mono ?_
        rintro e w6 ⟨rfl, b6⟩
        have B6 := hid (bt B5.out b6)
        clear b6 HE
        go_wp2
        go_ret2
        have ht := HTF.out
        subst ht
        have hx' := HX.out
        subst hx'
        exact ⟨_, rfl, Bs.nil _, B6.out⟩
      · have HE := hid (encode_yes o v _ HL5.out HCS5.out HFI.out hr)
        have HRI := hid hr
        clear hr
        go_wp2_with (first | (refine wpList_val _ rfl (run_load_opat rfl rfl HC.out) ?_) | (refine wpList_store_ops rfl _ _ rfl 0 o v HVF.out rfl rfl ?_) | (refine wpList_load_op rfl _ rfl wr.heap.size rfl o v HO5.out ?_) | fail)
        refine HE.out.mono ?_
        rintro e w6 ⟨u6, rfl, hown6, b6⟩
        have B6 := hid (bt B5.out b6)
        have HW6 := hid (HW5.out.below b6)
        have HU6 := hid (Bs.of_own hown6 (encO_byt HRI.out))
        have hlk : (fsts (l.take k)).length = k := by unfold fsts; rw [List.length_map, List.length_take]; omega
        have htl := encTs_len _ HR4.out
        rw [hlk] at htl
        have hsz := (M.sz_pos (n : Int)).2
        have hsm : (M.str (encO o)).size ≤ 1099511627776 := by
          have := congrArg List.length (tx_str (encO_byt HRI.out))
          rw [tx_length] at this
          have := encO_len HRI.out
          omega
        have HTW := hid (text_w w.heap.size w.heap.size v4 _ (M.str (encO o)) w6 HW6.out B6.out.size hsm (by rw [List.length_append, M.enc_length]; omega))
        clear b6 HE hown6 hlk htl hsz hsm
        go_wp2_with (first | (refine wpList_val _ rfl (run_conv rfl rfl HU6.out) ?_) | fail)
        refine HTW.out.mono ?_
        rintro e w7 ⟨rfl, v7, hw7, hx7⟩
        have hb7 : Below w.heap.size w6 w7 := hx7.1.below (fun q hq hs => by
          rcases hs with hs | hs
          · omega
          · have := (HW6.out.2.1.lt q hs).1
            omega) B6.out.size
        have B7 := hid (B6.out.trans hb7)
        have HW7 := hid hw7
        clear hw7 hx7 hb7 HTW
        go_wp2
        go_roundw
        case rel =>
          have htk : fsts (l.take (k + 1)) = fsts (l.take k) ++ [o] := by
            unfold fsts
            rw [List.take_succ_eq_append_getElem hx, List.map_append, HP.out]
            rfl
          refine ⟨k + 1, v7, by omega, by go_num, ?_, B7.out, fun q hq => ?_⟩
          · rw [htk, List.flatMap_append, ← List.append_assoc]
            have := HW7.out
            simpa [encT] using this
          · rw [htk] at hq
            rcases List.mem_append.1 hq with hq | hq
            · exact HR4.out q hq
            · rw [List.mem_singleton.1 hq]; exact HRI.out
        case measure => simp [intOf]; omega
    · have b1' : ¬ (k : Int) < (n : Int) := by omega
      have e1 : k = n := by omega
      have htk : l.take k = l := List.take_of_length_le (by have := HN.out; omega)
      rw [htk] at HW4 HR4
      have hTt : T = true := by rw [← HT.out, List.all_eq_true]; exact HR4.out
      have HTT := hid hTt
      obtain ⟨hc4, hf4, a4, c4, hv4, _⟩ := HW4.out.cell
      obtain ⟨N4, hN4⟩ : ∃ N, (M.enc (n : Int) ++ (fsts l).flatMap encT).length = N := ⟨_, rfl⟩
      rw [hN4] at hv4
      clear hN4
      subst hv4
      clear htk hTt e1
      go_wp2
      go_ret2
      have ht := HTT.out
      subst ht
      have hx' := HX.out
      subst hx'
      refine ⟨_, rfl, ?_, B4.out⟩
      have hb := Bs.of_own HW4.out.2.1 HW4.out.2.2
      have hlf : ((fsts l).length : Int) = (n : Int) := by unfold fsts; rw [List.length_map, HN.out]
      simp only [if_true]
      unfold encA
      rw [hlf]
      exact hb

end Go.Proofs.YtniecbblhphbdaaDoor

/-
  What the reference's EncodeAll returns is proved here, for every row of at most sixty fine ops.
-/
namespace Go.Proofs.YtniecbblhphbdaaDoor
open Go.RowKit
set_option linter.unusedVariables false
set_option maxRecDepth 100000

theorem wpList_append_en0 {w w0 : World} {ops : Array Oper} {rest : List Oper} {o : Oper} {a : Act} {Q : Exit → Act → World → Prop} (hgd : o.guard = none) (s x : Operand)
    (ho : o.op = .call { callee := .builtin .append, args := #[s, x], argTypes := #[22, 22] })
    {v : Value} {xs : List Int} {k : Nat} (hs : a.eval s = v) (hW : En w0.heap.size w v xs k) (u : Value) {ys : List Int} (hx : a.eval x = u) (hu : Bs w u ys) (hul : ys.length ≤ 1099511627776) (hk : k ≤ 100)
    (hB : Below w0.heap.size w0 w)
    (h : ∀ va n vc w', En w0.heap.size w' (.slice va n vc) (xs ++ ys) (k + 1) → Below w0.heap.size w0 w' → wpList Tryd.prog ops Q rest (a.put o.dst (.slice va n vc)) w') :
    wpList Tryd.prog ops Q (o :: rest) a w := by
  have hl := hW.2.1
  have hkk : k * 1099511627776 ≤ 100 * 1099511627776 := Nat.mul_le_mul_right _ hk
  refine wpList_append_bs hgd s x ho w0.heap.size v xs.length xs hs hW.1 u ys hx hu (by omega) hB.size ?_
  intro v' w' h1 h2 _
  have hE : En w0.heap.size w' v' (xs ++ ys) (k + 1) := ⟨by rw [List.length_append]; exact h1, by rw [List.length_append, Nat.add_mul]; omega, fun z hz => by
    rcases List.mem_append.1 hz with hz | hz
    · exact hW.2.2 z hz
    · exact hu.range z hz⟩
  have hB' : Below w0.heap.size w0 w' := Below.grown hB h2 hB.size (fun j hj => (hW.1.lt j hj).1)
  obtain ⟨va, n, vc, rfl⟩ := hE.form
  exact h va n vc w' hE hB'

set_option maxHeartbeats 4000000 in
theorem xencodeall_any (va : Value) (l : List (Opn × Value)) (w : World) (hO : Os w va l) (hf : ∀ p ∈ l, p.1.fine) (hn : l.length ≤ 60) :
    Calls Tryd.prog 17 #[va] w fun e w' => ∃ u, e = .returned (.tuple #[u, .bool ((fsts l).all rightO)]) ∧ Bs w' u (if (fsts l).all rightO then encA (fsts l) else []) ∧ Below w.heap.size w w' := by
  obtain ⟨a, c, rfl, _, _⟩ := Sl.form hO.1
  obtain ⟨n, hnn⟩ : ∃ n, l.length = n := ⟨_, rfl⟩
  have HN := hid hnn
  have hcell : ∀ i (h : i < l.length), ∃ b off, a = some ⟨b, off, none⟩ ∧ b < w.heap.size ∧ ∀ j, j < 20 → w.cell? ⟨b, off + i * 20 + j, none⟩ = (opl (l[i]).1 (l[i]).2)[j]? := by
    intro i h
    obtain ⟨b, off, c', e, _, _, hb, hc⟩ := hO.inv (by omega)
    simp only [Value.slice.injEq] at e
    exact ⟨b, off, e.1, hb, hc i h⟩
  have HCE := hid hcell
  have HV := hid hO.2
  have HF := hid hf
  rw [hnn] at hn ⊢
  obtain ⟨T, hT⟩ : ∃ T, (fsts l).all rightO = T := ⟨_, rfl⟩
  rw [hT]
  have HT := hid hT
  obtain ⟨X, hX⟩ : ∃ X, (if T then encA (fsts l) else []) = X := ⟨_, rfl⟩
  rw [hX]
  have HX := hid hX
  have HN49 : Hid (Num49 (n : Int)) := ⟨by omega, by omega⟩
  clear hcell hO hf hnn hT hX
  go_enter Tryd.func17, Tryd.ntmps17
  go_wp2_with fail
  refine (xnumb (n : Int) w HN49.out).mono ?_
  rintro e w2 ⟨v2, rfl, ho2, b2⟩
  have HW2 : Hid (En w.heap.size w2 v2 (M.enc (n : Int)) 1) := ⟨ho2, by have := enc_l (n : Int); omega, enc_b HN49.out⟩
  have HB2 := hid b2
  obtain ⟨a2, n2, c2, hv2⟩ := HW2.out.form
  subst hv2
  clear ho2 b2
  go_wp2
  go_loopw [4, 5] (fun out i wr => ∃ (k : Nat) (ra : Option Addr) (rn rc : Nat), k ≤ n ∧ i = .int .i64 k ∧ out = .slice ra rn rc ∧ En w.heap.size wr (.slice ra rn rc) (M.enc (n : Int) ++ (fsts (l.take k)).flatMap encT) (1 + k) ∧ Below w.heap.size w wr ∧ ∀ q ∈ fsts (l.take k), rightO q = true) (fun _ i _ => n - (intOf i).toNat)
  case atStart => exact ⟨0, _, _, _, Nat.zero_le _, rfl, rfl, by simpa using HW2.out, HB2.out, fun q hq => by simp at hq⟩
  case round =>
    obtain ⟨k, ra, rn, rc, hk, rfl, rfl, hw4, hb4, hr4⟩ := hrel
    have HW4 := hid hw4
    have B4 := hid hb4
    have HR4 := hid hr4
    clear hw4 hb4 hr4
    by_cases hlt : k < n
    · have hx : k < l.length := by have := HN.out; omega
      obtain ⟨b, off, ha, hbl, hc⟩ := HCE.out k hx
      subst ha
      obtain ⟨⟨o, v⟩, hp⟩ : ∃ p, l[k] = p := ⟨_, rfl⟩
      have hfin := HF.out _ (List.getElem_mem hx)
      have hcs := HV.out _ (List.getElem_mem hx)
      rw [hp] at hc hfin hcs
      dsimp only at hc hfin hcs
      have HP := hid hp
      have HC : Hid (∀ j, j < 20 → wr.cell? ⟨b, off + k * 20 + j, none⟩ = (opl o v)[j]?) := hid (fun j hj => (B4.out.cell hbl).trans (hc j hj))
      have HFI := hid hfin
      have HCS := hid (hcs.below B4.out)
      have b1' : (k : Int) < (n : Int) := by omega
      have HK : Hid (1 + k ≤ 100) := by show _ ≤ _; omega
      clear hp hc hfin hcs hbl
      cases hr : rightO o
      · have hTf : false = T := by
          rw [← HT.out]
          symm
          rw [List.all_eq_false]
          refine ⟨o, ?_, by rw [hr]; decide⟩
          have := List.getElem_mem hx
          rw [HP.out] at this
          exact List.mem_map.2 ⟨_, this, rfl⟩
        have HTF := hid hTf
        have HRI := hid hr
        clear hr hTf
        go_wp2_with (first | (refine wpList_val _ rfl (run_load_opat rfl rfl HC.out) ?_) | fail)
        refine (xencode_no _ o v rfl wr HCS.out HFI.out HRI.out).mono ?_
        rintro e w6 ⟨rfl, b6⟩
        have B6 := hid (bt B4.out b6)
        clear b6
        go_wp2
        go_ret2
        have ht := HTF.out
        subst ht
        have hx' := HX.out
        subst hx'
        exact ⟨_, rfl, Bs.nil _, B6.out⟩
      · have HRI := hid hr
        clear hr
        have HSM : Hid ((M.str (encO o)).size ≤ 549755813888) := by
          show _ ≤ _
          have := congrArg List.length (tx_str (encO_byt HRI.out))
          rw [tx_length] at this
          have := encO_len HRI.out
          omega
        go_wp2_with (first | (refine wpList_val _ rfl (run_load_opat rfl rfl HC.out) ?_) | fail)
        refine (xencode_yes _ o v rfl wr HCS.out HFI.out HRI.out).mono ?_
        rintro e w6 ⟨ea, en, ec, rfl, hu6, b6⟩
        have B6 := hid (bt B4.out b6)
        have HW6 := hid (HW4.out.below b6)
        have HU6 := hid hu6
        clear b6 hu6
        go_wp2_with (first | (refine wpList_val _ rfl (run_conv rfl rfl HU6.out) ?_) | fail)
        refine (xtext_f (M.str (encO o)) w6 HSM.out).mono ?_
        rintro e w7 ⟨ua, un, uc, rfl, hu, hul, hb⟩
        have B7 := hid (bt B6.out hb)
        have HW7 := hid (HW6.out.below hb)
        have HU := hid hu
        have HUL := hid hul
        clear hu hul hb
        go_wp2_with (at_builtin; refine wpList_append_en0 rfl _ _ rfl rfl HW7.out _ rfl HU.out HUL.out HK.out B7.out ?_; intro va9 n9 vc9 w9 hw hbb; have HW9 := hid hw; have B9 := hid hbb; clear hw hbb)
        have htk : fsts (l.take (k + 1)) = fsts (l.take k) ++ [o] := by
          unfold fsts
          rw [List.take_succ_eq_append_getElem hx, List.map_append, HP.out]
          rfl
        refine ⟨⟨k + 1, _, _, _, by omega, by go_num, rfl, ?_, B9.out, fun q hq => ?_⟩, by simp [intOf]; omega⟩
        · rw [htk, List.flatMap_append, ← List.append_assoc, ← Nat.add_assoc]
          have := HW9.out
          simpa [encT] using this
        · rw [htk] at hq
          rcases List.mem_append.1 hq with hq | hq
          · exact HR4.out q hq
          · rw [List.mem_singleton.1 hq]; exact HRI.out
    · have b1' : ¬ (k : Int) < (n : Int) := by omega
      have htk : l.take k = l := List.take_of_length_le (by have := HN.out; omega)
      rw [htk] at HW4 HR4
      have hTt : T = true := by rw [← HT.out, List.all_eq_true]; exact HR4.out
      have HTT := hid hTt
      clear htk hTt
      go_wp2
      go_ret2
      have ht := HTT.out
      subst ht
      have hx' := HX.out
      subst hx'
      refine ⟨_, rfl, ?_, B4.out⟩
      have hb := Bs.of_own HW4.out.1 HW4.out.2.2
      have hlf : ((fsts l).length : Int) = (n : Int) := by unfold fsts; rw [List.length_map, HN.out]
      simp only [if_true]
      unfold encA
      rw [hlf]
      exact hb

set_option maxHeartbeats 2000000 in
/-- A row that is longer than that is long. -/
theorem long_more (v : Value) (l : List (Opn × Value)) (most : Nat) (w : World) (h : Os w v l) (hm : most < l.length) :
    Calls Tryd.prog 15 #[v, .int .i64 most] w fun e w' => e = .returned (.bool true) ∧ w = w' := by
  obtain ⟨a, c, rfl, _⟩ := Sl.form h.1
  obtain ⟨n, hn⟩ : ∃ n, l.length = n := ⟨_, rfl⟩
  rw [hn] at hm ⊢
  have hm' : (most : Int) < (n : Int) := by omega
  clear h hn
  go_enter Tryd.func15, Tryd.ntmps15
  go_wp2
  go_ret
  exact ⟨rfl, rfl⟩
end Go.Proofs.YtniecbblhphbdaaDoor

/-
  OpLists returns true for every list of ops and every place: its walk.
-/
namespace Go.Proofs.YtniecbblhphbdaaDoor
open Go.RowKit
set_option linter.unusedVariables false
set_option maxRecDepth 100000

theorem Os.onto {w w' : World} {v : Value} {l : List (Opn × Value)} (h : Os w v l) (hb : Below w.heap.size w w') : Os w' v l := ⟨Sl.below h.1 hb, fun p hp => (h.2 p hp).below hb⟩

set_option maxHeartbeats 8000000 in
theorem lists_walk (va : Value) (l : List (Opn × Value)) (cut : Int) (w : World) (hO : Os w va l) (hL : Lay w) :
    Calls Tryd.prog 4 #[va, .int .i64 cut] w fun e w' => e = .returned (.bool true) ∧ Below w.heap.size w w' := by
  have HO := hid hO
  have HL := hid hL
  obtain ⟨a0, c0, rfl, _⟩ := Sl.form hO.1
  clear hO hL
  go_enter Tryd.func4, Tryd.ntmps4
  go_wp2_with fail
  refine (alive_any w HL.out).mono ?_
  rintro e w1 ⟨rfl, b1⟩
  have B1 := hid b1
  clear b1
  go_wp2_with fail
  by_cases hlen : 60 < l.length
  · refine (long_more _ l 60 w1 (Os.onto HO.out B1.out) hlen).mono ?_
    rintro e w2 ⟨rfl, rfl⟩
    go_wp2
    go_ret
    exact ⟨rfl, B1.out⟩
  · refine (long_any _ l 60 w1 (Os.onto HO.out B1.out) (by omega) (by decide)).mono ?_
    rintro e w2 ⟨rfl, rfl⟩
    have HLE : Hid (l.length ≤ 60) := by show _ ≤ _; omega
    clear hlen
    cases hs : l.all (fun p => small p.1)
    · go_wp2
      go_ret
      exact ⟨rfl, B1.out⟩
    · have HF : Hid (∀ p ∈ l, p.1.fine) := fun p hp => (small_fine (List.all_eq_true.1 hs p hp)).1
      clear hs
      obtain ⟨T, hT⟩ : ∃ T, (fsts l).all rightO = T := ⟨_, rfl⟩
      obtain ⟨X, hX⟩ : ∃ X, (if T then encA (fsts l) else []) = X := ⟨_, rfl⟩
      have HT := hid hT
      have HX := hid hX
      have E1 := hid (encodeall_any _ l w1 (HL.out.below B1.out) (Os.onto HO.out B1.out) HF.out (by have := HLE.out; omega))
      have E2 := hid (fun W (hb : Below w.heap.size w W) => xencodeall_any _ l W (Os.onto HO.out hb) HF.out HLE.out)
      rw [hT, hX] at E1 E2
      clear hT hX
      go_wp2_with fail
      refine E1.out.mono ?_
      rintro e w3 ⟨u3, rfl, hu3, b3⟩
      have B3 := hid (bt B1.out b3)
      have HU3 := hid hu3
      obtain ⟨a3, c3, rfl⟩ := hu3.form
      obtain ⟨N, hN⟩ : ∃ N, X.length = N := ⟨_, rfl⟩
      have HN := hid hN
      rw [hN] at HU3 ⊢
      clear hu3 b3 E1 hN
      go_wp2_with fail
      refine (E2.out w3 B3.out).mono ?_
      rintro e w4 ⟨u4, rfl, hu4, b4⟩
      have B4 := hid (bt B3.out b4)
      have HU4 := hid hu4
      have HV4 := hid (HU3.out.below b4)
      obtain ⟨a4, c4, rfl⟩ := hu4.form
      rw [HN.out] at HU4 ⊢
      clear hu4 b4 E2 HU3
      have htt : (T != T) = false := by simp
      go_wp2_with fail
      refine (same_b _ _ _ _ w4 HV4.out HU4.out).mono ?_
      rintro e w5 ⟨rfl, b5⟩
      rw [decide_eq_true rfl]
      have B5 := hid (bt B4.out b5)
      have HV5 := hid (HV4.out.below b5)
      clear b5 HU4 HV4
      cases T with
      | false =>
        go_wp2
        go_ret
        exact ⟨rfl, B5.out⟩
      | true =>
        have hXe : encA (fsts l) = X := HX.out
        have hall : ∀ q ∈ fsts l, rightO q = true := List.all_eq_true.1 HT.out
        have hfl : (fsts l).length ≤ 60 := by unfold fsts; rw [List.length_map]; exact HLE.out
        have hXl : X.length ≤ 1099511627776 := by
          rw [← hXe]
          unfold encA
          rw [List.length_append]
          have h1 := enc_l ((fsts l).length : Int)
          have h2 := encTs_len _ hall
          omega
        have hD : decA mOwn X = (fsts l, true) := by rw [decA_same HV5.out.range hXl, ← hXe]; exact decA_full _ hall (by omega)
        have HXL := hid hXl
        have HDC : Hid (∀ j : Nat, j < N → (decA mOwn (X.take j)).2 = false) := fun j hj => by
          have hr : K.Byt (X.take j) := fun x hx => HV5.out.range x (List.mem_of_mem_take hx)
          rw [decA_same hr (by rw [List.length_take]; omega)]
          rw [← hXe] at hr ⊢
          exact decA_less hall (by omega) (by rw [hXe, HN.out]; exact hj) hr (by rw [hXe]; exact hXl)
        have DA5 := hid (decodeall_any _ X w5 (HL.out.below B5.out) HV5.out hXl)
        rw [hD] at DA5
        clear hXe hall hfl hXl hD
        go_wp2_with fail
        refine DA5.out.mono ?_
        rintro e w6 ⟨v6, l6, rfl, o6, f6, b6⟩
        have B6 := hid (bt B5.out b6)
        have O6 := hid o6
        have F6 := hid f6
        have HV6 := hid (HV5.out.below b6)
        obtain ⟨a6, c6, rfl, _⟩ := Sl.form o6.1
        clear o6 f6 b6 DA5 HV5
        go_wp2_with fail
        refine (sameops_any _ _ l6 l w6 O6.out (Os.onto HO.out B6.out)).mono ?_
        rintro e w7 ⟨r, rfl, hr, b7⟩
        obtain rfl : r = true := hr.2 F6.out
        have B7 := hid (bt B6.out b7)
        have HV7 := hid (HV6.out.below b7)
        clear hr b7 HV6
        by_cases hc0 : cut < 0
        · go_wp2
          go_ret
          exact ⟨rfl, B7.out⟩
        · have hc0' : decide (cut < 0) = false := by simp; omega
          by_cases hc1 : (N : Int) ≤ cut
          · go_wp2
            go_ret
            exact ⟨rfl, B7.out⟩
          · obtain ⟨j, rfl⟩ : ∃ j : Nat, cut = j := ⟨cut.toNat, by omega⟩
            have hc1' : ¬ (N : Int) ≤ (j : Int) := hc1
            have hjN : j < N := by omega
            have hNc : N ≤ c3 := by
              obtain ⟨a, c, e, h2, _⟩ := HV7.out
              simp only [Value.slice.injEq] at e
              have := HN.out
              omega
            have hjc : j ≤ c3 := by omega
            have DA7 := hid (decodeall_any _ (X.take j) w7 (HL.out.below B7.out) (HV7.out.take j (by omega)) (by rw [List.length_take]; have := HXL.out; omega))
            have HDJ := hid (HDC.out j hjN)
            clear HDC
            go_wp2_with fail
            refine DA7.out.mono ?_
            rintro e w8 ⟨v8, l8, rfl, o8, f8, b8⟩
            rw [HDJ.out]
            have B8 := hid (bt B7.out b8)
            obtain ⟨a8, c8, rfl, _⟩ := Sl.form o8.1
            clear o8 f8 b8 DA7
            go_wp2
            go_ret
            exact ⟨rfl, B8.out⟩
end Go.Proofs.YtniecbblhphbdaaDoor

/-
  From a walk to the given statement: what the arguments' readings give (ops, rows of ops, bytes), and a world for the witness.
-/
namespace Go.Proofs.YtniecbblhphbdaaDoor
open Go.RowKit Go.ChangeShapes Go.WideShapes Go.ChangeAt
set_option linter.unusedVariables false
set_option maxRecDepth 100000

theorem own : ownKnob Tryd.prog.godebug = none := by kernel_rfl
theorem laidOut : laidOutB Tryd.prog = true := by kernel_rfl

theorem Sl.of_rows {sz : Nat} {W : World} {x : Addr} {len cap : Nat} (hs : 0 < sz) (hl : len ≤ cap) (hm : cap ≤ maxLen) (R : Nat → List Value)
    (h : ∀ i, i < len → (R i).length = sz ∧ ∀ j u, (R i)[j]? = some u → W.cell? (x.add (i * sz + j)) = some u) : Sl sz W (.slice (some x) len cap) len ((List.range len).flatMap R) := by
  have hlen : ∀ n, n ≤ len → ((List.range n).flatMap R).length = n * sz := by
    intro n
    induction n with
    | zero => intro _; simp
    | succ n ih => intro hn; rw [List.range_succ, List.flatMap_append, List.length_append, ih (by omega)]; simp [(h n (by omega)).1, Nat.add_mul]
  have hat : ∀ n, n ≤ len → ∀ j u, ((List.range n).flatMap R)[j]? = some u → W.cell? (x.add j) = some u := by
    intro n
    induction n with
    | zero => intro _ j u hj; simp at hj
    | succ n ih =>
      intro hn j u hj
      rw [List.range_succ, List.flatMap_append] at hj
      by_cases hjl : j < n * sz
      · rw [List.getElem?_append_left (by rw [hlen n (by omega)]; exact hjl)] at hj
        exact ih (by omega) j u hj
      · rw [List.getElem?_append_right (by rw [hlen n (by omega)]; omega), hlen n (by omega)] at hj
        simp at hj
        have := (h n (by omega)).2 _ u hj
        rw [show n * sz + (j - n * sz) = j from by omega] at this
        exact this
  refine ⟨hlen len (Nat.le_refl _), some x, cap, rfl, hl, hm, fun h => (by cases h), fun j u hu => ?_⟩
  have h1 := hat len (Nat.le_refl _) j u hu
  have hpos : 0 < len := by
    rcases Nat.eq_zero_or_pos len with e | e
    · subst e; simp at hu
    · exact e
  obtain ⟨b, off, spot⟩ := x
  have hs0 : spot = none := by
    obtain ⟨h0, h0'⟩ := h 0 hpos
    obtain ⟨u0, hu0⟩ : ∃ u0, (R 0)[0]? = some u0 := ⟨_, List.getElem?_eq_getElem (by omega)⟩
    have := World.cell?_spot (h0' 0 u0 hu0)
    simpa [Addr.add] using this
  subst hs0
  rw [Addr.add_lit] at h1
  exact ⟨b, off, rfl, h1⟩

theorem cells_cut : Tryd.prog.cellsOf 71 = 4 := by kernel_rfl
theorem cells_id : Tryd.prog.cellsOf 25 = 2 := by kernel_rfl
theorem cells_char : Tryd.prog.cellsOf 27 = 3 := by kernel_rfl
theorem cells_int : Tryd.prog.cellsOf 3 = 1 := by kernel_rfl
theorem cells_str : Tryd.prog.cellsOf 9 = 1 := by kernel_rfl
theorem cells_bool : Tryd.prog.cellsOf 4 = 1 := by kernel_rfl
theorem cells_cuts : Tryd.prog.cellsOf 28 = 1 := by kernel_rfl
theorem cells_op : Tryd.prog.cellsOf 30 = 20 := by kernel_rfl

theorem list_3 {α : Type} {l : List α} (h : l.length = 3) : ∃ a b c, l = [a, b, c] := by
  match l, h with
  | [a, b, c], _ => exact ⟨a, b, c, rfl⟩
theorem list_4 {α : Type} {l : List α} (h : l.length = 4) : ∃ a b c d, l = [a, b, c, d] := by
  match l, h with
  | [a, b, c, d], _ => exact ⟨a, b, c, d, rfl⟩
theorem list_20 {α : Type} {l : List α} (h : l.length = 20) : ∃ a b c d e f g h i j k m n o p q r s t u, l = [a, b, c, d, e, f, g, h, i, j, k, m, n, o, p, q, r, s, t, u] := by
  match l, h with
  | [a, b, c, d, e, f, g, h, i, j, k, m, n, o, p, q, r, s, t, u], _ => exact ⟨a, b, c, d, e, f, g, h, i, j, k, m, n, o, p, q, r, s, t, u, rfl⟩

section
variable {H : Type} {enc : TypeId × Value → H} {W : World} {held : Bool}
theorem trod_id {n : Nat} {a b : Value} {x : DataW H × List MemPlace} (h : DataW.trod enc Tryd.prog W 0 (fun _ => true) held n 25 [a, b] = some x) : ∃ r m, a = .int .i64 r ∧ b = .int .i64 m := by
  obtain ⟨y0, y1, n, _, hl, h0, h1⟩ := trod_struct2 Tryd.underlying25 h
  simp [cells_int] at h0 h1
  obtain ⟨r, e0, _⟩ := DataW.trod_int Tryd.underlying3 h0
  obtain ⟨m, e1, _⟩ := DataW.trod_int Tryd.underlying3 h1
  simp at e0 e1
  exact ⟨r, m, e0, e1⟩
theorem trod_char {n : Nat} {a b c : Value} {x : DataW H × List MemPlace} (h : DataW.trod enc Tryd.prog W 0 (fun _ => true) held n 27 [a, b, c] = some x) : ∃ r m i, a = .int .i64 r ∧ b = .int .i64 m ∧ c = .int .i64 i := by
  obtain ⟨y0, y1, n, _, hl, h0, h1⟩ := trod_struct2 Tryd.underlying27 h
  simp [cells_int, cells_id] at h0 h1
  obtain ⟨r, m, e0, e1⟩ := trod_id h0
  obtain ⟨i, e2, _⟩ := DataW.trod_int Tryd.underlying3 h1
  simp at e2
  exact ⟨r, m, i, e0, e1, e2⟩
theorem trod_cut {n : Nat} {cs : List Value} {x : DataW H × List MemPlace} (h : DataW.trod enc Tryd.prog W 0 (fun _ => true) held n 71 cs = some x) : ∃ c : Ct, cs = cutc c := by
  obtain ⟨xs, k, hk, hxy, hlen, hxl, hfl⟩ := DataW.trod_struct Tryd.underlying71 h
  rw [cells_cut] at hlen
  obtain ⟨y0, y1, y2, rfl⟩ := list_3 hxl
  obtain ⟨v0, v1, v2, v3, rfl⟩ := list_4 hlen
  have g0 := hfl 0 _ rfl
  have g1 := hfl 1 _ rfl
  have g2 := hfl 2 _ rfl
  simp [cells_int, cells_id] at g0 g1 g2
  obtain ⟨r, m, rfl, rfl⟩ := trod_id g0
  obtain ⟨f, e1, _⟩ := DataW.trod_int Tryd.underlying3 g1
  obtain ⟨t, e2, _⟩ := DataW.trod_int Tryd.underlying3 g2
  simp at e1 e2
  subst e1; subst e2
  exact ⟨⟨r, m, f, t⟩, rfl⟩
theorem trod_cuts {n : Nat} {v : Value} {x : DataW H × List MemPlace} (h : DataW.trod enc Tryd.prog W 0 (fun _ => true) held n 28 [v] = some x) : ∃ l, Cs W v l := by
  rcases Go.Deep.open_slice Tryd.underlying28 h with ⟨hcs, _⟩ | ⟨x, len, c, m, n, D, Pl, hcs, _, hl, hm, hmm, _, hx⟩
  · simp at hcs
    subst hcs
    exact ⟨[], Cs.nil W⟩
  · simp at hcs
    subst hcs
    simp at hmm
    subst hmm
    rw [cells_cut] at hx
    have each : ∀ i, i < len → ∃ q : Ct, W.cells? 0 (x.add (i * 4)) 4 = some (cutc q) := fun i hi => by
      obtain ⟨cs', h1, h2⟩ := hx i (by omega)
      obtain ⟨q, rfl⟩ := trod_cut h2
      exact ⟨q, h1⟩
    have hinh : Inhabited Ct := ⟨Ct.zero⟩
    obtain ⟨q, hq⟩ := Go.Deep.choose_lt each
    refine ⟨(List.range len).map q, ?_⟩
    have := Sl.of_rows (sz := 4) (W := W) (x := x) (by decide) hl hm (fun i => cutc (q i)) (fun i hi => ⟨rfl, fun j u hu => by
      obtain ⟨_, _, hcell⟩ := World.cells?_some (hq i hi)
      have hj : j < 4 := (List.getElem?_eq_some_iff.1 hu).1
      have := hcell j hj
      rw [Go.Deep.add_add] at this
      rw [this, hu]⟩)
    unfold Cs
    rw [List.length_map, List.length_range, List.flatMap_map]
    exact this
theorem trod_op {n : Nat} {cs : List Value} {x : DataW H × List MemPlace} (h : DataW.trod enc Tryd.prog W 0 (fun _ => true) held n 30 cs = some x) : ∃ o v, cs = opc (o, v) ∧ Cs W v o.cuts := by
  obtain ⟨xs, k, hk, hxy, hlen, hxl, hfl⟩ := DataW.trod_struct Tryd.underlying30 h
  rw [cells_op] at hlen
  obtain ⟨v0, v1, v2, v3, v4, v5, v6, v7, v8, v9, v10, v11, v12, v13, v14, v15, v16, v17, v18, v19, rfl⟩ := list_20 hlen
  have hsz : xs.length = 12 := hxl
  have hat : ∀ i, i < 12 → ∃ y, xs[i]? = some y := fun i hi => ⟨_, List.getElem?_eq_getElem (by omega)⟩
  obtain ⟨z0, k0⟩ := hat 0 (by decide)
  obtain ⟨z1, k1⟩ := hat 1 (by decide)
  obtain ⟨z2, k2⟩ := hat 2 (by decide)
  obtain ⟨z3, k3⟩ := hat 3 (by decide)
  obtain ⟨z4, k4⟩ := hat 4 (by decide)
  obtain ⟨z5, k5⟩ := hat 5 (by decide)
  obtain ⟨z6, k6⟩ := hat 6 (by decide)
  obtain ⟨z7, k7⟩ := hat 7 (by decide)
  obtain ⟨z8, k8⟩ := hat 8 (by decide)
  obtain ⟨z9, k9⟩ := hat 9 (by decide)
  obtain ⟨z10, k10⟩ := hat 10 (by decide)
  obtain ⟨z11, k11⟩ := hat 11 (by decide)
  have g0 := (hfl 0 _ rfl).trans k0
  have g1 := (hfl 1 _ rfl).trans k1
  have g2 := (hfl 2 _ rfl).trans k2
  have g3 := (hfl 3 _ rfl).trans k3
  have g4 := (hfl 4 _ rfl).trans k4
  have g5 := (hfl 5 _ rfl).trans k5
  have g6 := (hfl 6 _ rfl).trans k6
  have g7 := (hfl 7 _ rfl).trans k7
  have g8 := (hfl 8 _ rfl).trans k8
  have g9 := (hfl 9 _ rfl).trans k9
  have g10 := (hfl 10 _ rfl).trans k10
  have g11 := (hfl 11 _ rfl).trans k11
  simp [cells_int] at g0
  simp [cells_id] at g1
  simp [cells_int] at g2
  simp [cells_id] at g3
  simp [cells_id] at g4
  simp [cells_str] at g5
  simp [cells_id] at g6
  simp [cells_char] at g7
  simp [cells_char] at g8
  simp [cells_str] at g9
  simp [cells_cuts] at g10
  simp [cells_bool] at g11
  obtain ⟨a0, e0, _⟩ := DataW.trod_int Tryd.underlying3 g0
  obtain ⟨a1, a2, rfl, rfl⟩ := trod_id g1
  obtain ⟨a3, e3, _⟩ := DataW.trod_int Tryd.underlying3 g2
  obtain ⟨a4, a5, rfl, rfl⟩ := trod_id g3
  obtain ⟨a6, a7, rfl, rfl⟩ := trod_id g4
  obtain ⟨a8, e8, _⟩ := DataW.trod_string Tryd.underlying9 g5
  obtain ⟨a9, a10, rfl, rfl⟩ := trod_id g6
  obtain ⟨a11, a12, a13, rfl, rfl, rfl⟩ := trod_char g7
  obtain ⟨a14, a15, a16, rfl, rfl, rfl⟩ := trod_char g8
  obtain ⟨a17, e17, _⟩ := DataW.trod_string Tryd.underlying9 g9
  obtain ⟨l, hl⟩ := trod_cuts g10
  obtain ⟨a19, e19, _⟩ := DataW.trod_bool Tryd.underlying4 g11
  obtain rfl : v0 = _ := by simpa using e0
  obtain rfl : v3 = _ := by simpa using e3
  obtain rfl : v8 = _ := by simpa using e8
  obtain rfl : v17 = _ := by simpa using e17
  obtain rfl : v19 = _ := by simpa using e19
  exact ⟨⟨a0, a1, a2, a3, a4, a5, a6, a7, a8, a9, a10, a11, a12, a13, a14, a15, a16, a17, l, a19⟩, v18, rfl, hl⟩
theorem open_op {b0 : Nat} {v : Value} {d : DataW H} {p : List MemPlace} (hv : Value.okWide Tryd.prog W .any b0 30 v) (h : DataW.Trod enc Tryd.prog W 0 (fun _ => true) held 30 v d p) : ∃ o u, v = opv o u ∧ Cs W u o.cuts := by
  obtain ⟨cs, rfl, hsz⟩ := okWide_struct Tryd.underlying30 hv
  obtain ⟨fuel, hf⟩ := h
  obtain ⟨o, u, e, hc⟩ := trod_op hf
  refine ⟨o, u, ?_, hc⟩
  obtain ⟨l⟩ := cs
  have e' : l = opc (o, u) := by simpa [Value.cells] using e
  rw [e']
theorem open_ops {b0 : Nat} {v : Value} {d : DataW H} {p : List MemPlace} (hv : Value.okWide Tryd.prog W .any b0 33 v) (h : DataW.Trod enc Tryd.prog W 0 (fun _ => true) held 33 v d p) : ∃ l, Os W v l := by
  obtain ⟨a, len, cap, rfl⟩ := okWide_slice Tryd.underlying33 hv
  obtain ⟨fuel, hf⟩ := h
  rcases Go.Deep.open_slice Tryd.underlying33 hf with ⟨hcs, _⟩ | ⟨x, l, c, m, n, D, Pl, hcs, _, hl, hm, hmm, _, hx⟩
  · simp [Value.cells] at hcs
    obtain ⟨rfl, rfl, rfl⟩ := hcs
    exact ⟨[], Sl.nil 20 W, fun p hp => by cases hp⟩
  · simp [Value.cells] at hcs
    obtain ⟨rfl, rfl, rfl⟩ := hcs
    simp at hmm
    subst hmm
    rw [cells_op] at hx
    have each : ∀ i, i < len → ∃ q : Opn × Value, W.cells? 0 (x.add (i * 20)) 20 = some (opc q) ∧ Cs W q.2 q.1.cuts := fun i hi => by
      obtain ⟨cs', h1, h2⟩ := hx i (by omega)
      obtain ⟨o, u, rfl, hc⟩ := trod_op h2
      exact ⟨(o, u), h1, hc⟩
    have hinh : Inhabited (Opn × Value) := ⟨(Opn.zero, .slice none 0 0)⟩
    obtain ⟨q, hq⟩ := Go.Deep.choose_lt each
    refine ⟨(List.range len).map q, ?_, fun p hp => ?_⟩
    · have := Sl.of_rows (sz := 20) (W := W) (x := x) (by decide) hl hm (fun i => opc (q i)) (fun i hi => ⟨rfl, fun j u hu => by
        obtain ⟨_, _, hcell⟩ := World.cells?_some (hq i hi).1
        have hj : j < 20 := (List.getElem?_eq_some_iff.1 hu).1
        have := hcell j hj
        rw [Go.Deep.add_add] at this
        rw [this, hu]⟩)
      rw [List.length_map, List.length_range, List.flatMap_map]
      exact this
    · obtain ⟨i, hi, rfl⟩ := List.mem_map.1 hp
      exact (hq i (List.mem_range.1 hi)).2
theorem open_u8s {b0 : Nat} {v : Value} {d : DataW H} {p : List MemPlace} (hv : Value.okWide Tryd.prog W .any b0 22 v) (h : DataW.Trod enc Tryd.prog W 0 (fun _ => true) held 22 v d p) : ∃ xs, Bs W v xs := by
  obtain ⟨a, len, cap, rfl⟩ := okWide_slice Tryd.underlying22 hv
  obtain ⟨fuel, hf⟩ := h
  rcases open_ints Tryd.underlying22 Tryd.underlying5 (by kernel_rfl) hf with ⟨hcs, _⟩ | ⟨x, l, c, zs, hcs, _, hl, hm, hz, _, hcell, hwz⟩
  · simp [Value.cells] at hcs
    obtain ⟨rfl, rfl, rfl⟩ := hcs
    exact ⟨[], Bs.nil W⟩
  · simp [Value.cells] at hcs
    obtain ⟨rfl, rfl, rfl⟩ := hcs
    exact ⟨zs.take len, Bs.of_row hl hm (by simpa using hz) hcell hwz⟩
theorem open_byte {b0 : Nat} {v : Value} {d : DataW H} {p : List MemPlace} (hv : Value.okWide Tryd.prog W .any b0 5 v) (h : DataW.Trod enc Tryd.prog W 0 (fun _ => true) held 5 v d p) : ∃ x, v = .int .u8 x ∧ 0 ≤ x ∧ x < 256 := by
  obtain ⟨a, rfl, _, _, hw⟩ := open_int Tryd.underlying5 hv h
  refine ⟨a, rfl, ?_⟩
  simp [Lit.wf, IntKind.min, IntKind.max, IntKind.signed, IntKind.bits] at hw
  omega
end

/-- The heap that the program's own text lays meets the list. -/
theorem door_met (os : Go.Os) (args : Array Value) : laidMetH Tryd.prog Rows.opBackRow.laid ((World.doorLaid Tryd.prog 72 os).forCall (fun _ _ => 0) ⟨#[], args, []⟩).memory := by
  rw [MakeChecks.laidMetH_plain _ _ _ (by kernel_rfl)]
  exact laidMet_of_run' 8 (by kernel_rfl) (by kernel_rfl)

end Go.Proofs.YtniecbblhphbdaaDoor
