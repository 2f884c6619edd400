/-
  Parts of the proof, one behind the other; what each proves stands at its head.
-/
import Derived.Test.YtaojeanoojnknaaDoorPart31
import Derived.Test.YtaojeanoojnknaaDoorPart34
import Derived.Test.YtaojeanoojnknaaDoorPart16
import Derived.Test.YtaojeanoojnknaaDoorPart21

/-
  What cause's Ready, New, Count, waits and Offer answer, and leave, is proved here.
-/
namespace Go.Proofs.YtaojeanoojnknaaDoor
open Go.RowKit
set_option linter.unusedVariables false
set_option maxRecDepth 100000

theorem ready_split (V : List Int) (o : Opn) : readyO V o = (rightO o && ((nextV V o.ir == o.im) && !lackN V (needsO o))) := by
  have e : lackN V (needsO o) = !(needsO o).all (fun x => hasV V x.1 x.2) := by
    unfold lackN
    rw [List.not_all_eq_any_not]
  rw [e, Bool.not_not, ← Bool.and_assoc]
  rfl

set_option maxHeartbeats 1000000 in
theorem cready_box (A : Value) (vb : Nat) (V : List Int) (o : Opn) (u : Value) (hA : A = opv o u) (w : World) (hL : Lay w) (hV : Vc w vb V) (hC : Cs w u o.cuts) (hf : o.fine) (hl : o.cuts.length ≤ 100000) :
    Calls Tryd.prog 12 #[.pointer (some ⟨vb, 0, none⟩), A] w fun e w' => e = .returned (.bool (readyO V o)) ∧ Below w.heap.size w w' := by
  have HV1 : Hid (Vp (w.alloc (.cells #[.pointer (some ⟨vb, 0, none⟩)] 31)) w.heap.size vb) := hid ⟨_, heap_alloc_new w _⟩
  have HA := hid hA
  have HB := hid (ba w (.cells #[.pointer (some ⟨vb, 0, none⟩)] 31))
  have HL := hid (hL.below HB.out)
  have HVV := hid (hV.below HB.out)
  have HC := hid (hC.below HB.out)
  have HF := hid hf
  have HCL := hid hl
  rw [ready_split]
  clear hA hL hV hC hf hl
  obtain ⟨u1, hu1⟩ : ∃ z, lackN V (needsO o) = z := ⟨_, rfl⟩
  cases hr : rightO o
  · have HR := hid hr
    clear hr
    rw [Bool.false_and]
    go_enter Tryd.func12, Tryd.ntmps12
    go_upto_region 2 with (refine wpList_box_op rfl _ rfl A rfl o u HA.out ?_; intro w1 hob hb1 hlt1; have HO1 := hid hob; have B1 := hid hb1; clear hob hb1 hlt1)
    have HG := hid (show Rg w1 w.heap.size (w.heap.size + 1) vb V o u from ⟨HL.out.below B1.out, HV1.out.below B1.out, HVV.out.below B1.out, (by simpa using HO1.out), HC.out.below B1.out⟩)
    have e1 : (w.alloc (.cells #[.pointer (some ⟨vb, 0, none⟩)] 31)).heap.size = w.heap.size + 1 := by simp
    have A1 := HA.out
    subst A1
    refine ready_r0 (p2 := w.heap.size) (p3 := w.heap.size + 1) (vb := vb) (V := V) (o := o) (u := u) HG.out HF.out HR.out (fun _ _ _ _ _ h => h) ?_
    intro W hW
    go_wp2_with fail
    go_ret
    exact ⟨rfl, bt (bt HB.out B1.out) hW⟩
  · have HR := hid hr
    clear hr
    rw [Bool.true_and]
    cases hn : (nextV V o.ir == o.im)
    · have HN := hid hn
      clear hn
      rw [Bool.false_and]
      go_enter Tryd.func12, Tryd.ntmps12
      go_upto_region 2 with (refine wpList_box_op rfl _ rfl A rfl o u HA.out ?_; intro w1 hob hb1 hlt1; have HO1 := hid hob; have B1 := hid hb1; clear hob hb1 hlt1)
      have HG := hid (show Rg w1 w.heap.size (w.heap.size + 1) vb V o u from ⟨HL.out.below B1.out, HV1.out.below B1.out, HVV.out.below B1.out, (by simpa using HO1.out), HC.out.below B1.out⟩)
      have A1 := HA.out
      subst A1
      refine ready_r1 (p2 := w.heap.size) (p3 := w.heap.size + 1) (vb := vb) (X := V) (o := o) (u := u) HG.out HF.out HR.out HN.out (fun _ _ _ _ _ h => h) ?_
      intro W hW
      go_wp2_with fail
      go_ret
      exact ⟨rfl, bt (bt HB.out B1.out) hW⟩
    · have HN := hid hn
      clear hn
      rw [Bool.true_and]
      have HU := hid hu1
      go_enter Tryd.func12, Tryd.ntmps12
      go_upto_region 2 with (refine wpList_box_op rfl _ rfl A rfl o u HA.out ?_; intro w1 hob hb1 hlt1; have HO1 := hid hob; have B1 := hid hb1; clear hob hb1 hlt1)
      have HG := hid (show Rg w1 w.heap.size (w.heap.size + 1) vb V o u from ⟨HL.out.below B1.out, HV1.out.below B1.out, HVV.out.below B1.out, (by simpa using HO1.out), HC.out.below B1.out⟩)
      have A1 := HA.out
      subst A1
      refine ready_r2 (p2 := w.heap.size) (p3 := w.heap.size + 1) (vb := vb) (X := V) (o := o) (u := u) HG.out HF.out HR.out HN.out HCL.out (fun _ _ _ _ _ h => h) ?_
      intro u9 W hW
      rw [HU.out]
      go_wp2_with fail
      go_ret
      exact ⟨rfl, bt (bt HB.out B1.out) hW⟩
theorem cready_any (vb : Nat) (V : List Int) (o : Opn) (u : Value) (w : World) (hL : Lay w) (hV : Vc w vb V) (hC : Cs w u o.cuts) (hf : o.fine) (hl : o.cuts.length ≤ 100000) :
    Calls Tryd.prog 12 #[.pointer (some ⟨vb, 0, none⟩), opv o u] w fun e w' => e = .returned (.bool (readyO V o)) ∧ Below w.heap.size w w' := cready_box _ vb V o u rfl w hL hV hC hf hl

theorem cnew_any (w : World) (h2 : 2 ≤ w.heap.size) :
    Calls Tryd.prog 9 #[] w fun e w' => ∃ bb mb, e = .returned (.pointer (some ⟨bb, 0, none⟩)) ∧ Bu w'.heap.size w' bb mb [] ∧ (w.heap.size ≤ bb ∧ w.heap.size ≤ mb) ∧ Below w.heap.size w w' := by
  have hmm := @run_makeMap Tryd.prog
  have HB : Hid (Below w.heap.size w ((w.alloc (.map #[] 0)).alloc (.cells #[.map (some w.heap.size)] 79))) := hid (bt (ba w _) (ba _ _))
  have HU : Hid (Bu (w.heap.size + 2) ((w.alloc (.map #[] 0)).alloc (.cells #[.map (some w.heap.size)] 79)) (w.heap.size + 1) w.heap.size []) := hid (by
    refine ⟨?_, ⟨[], #[], 0, ⟨?_, rfl, by simp, fun e he => by simp at he⟩, ⟨fun p hp => (by cases hp), fun p hp => (by cases hp)⟩, (by simp)⟩, Wl.nil, by omega⟩
    · have := heap_alloc_new (w.alloc (.map #[] 0)) (.cells #[.map (some w.heap.size)] 79)
      simpa using this
    · rw [(ba (w.alloc (.map #[] 0)) _).block w.heap.size (by simp)]
      exact heap_alloc_new w _)
  go_enter Tryd.func9, Tryd.ntmps9
  go_wp2_with fail
  go_ret
  exact ⟨w.heap.size + 1, w.heap.size, rfl, by simpa using HU.out, by omega, HB.out⟩

theorem run_ln {T E : TypeId} (hT : Tryd.prog.underlying T = some (.map 38 E)) (w : World) (mb : Nat) (es : Array MapEntry) (c : Nat) (hm : w.heap[mb]? = some (.map es c)) (ty : TypeId) :
    (Builtin.len_ #[T] ty #[.map (some mb)]).run Tryd.prog w = .ok (.int .i64 es.size) w := by
  have hg : (getObj mb).run Tryd.prog w = .ok (.map es c) w := by simp [getObj, Sem.run, hm]
  simp [Builtin.len_, run_underlying hT, hg, goInt, Result.andThen]
theorem wpList_ln {ops : Array Oper} {rest : List Oper} {o : Oper} {a : Act} {w : World} {Q : Exit → Act → World → Prop} {T E : TypeId} (hgd : o.guard = none) (m : Operand) (hop : o.op = Op.call { callee := Callee.builtin Builtin.len, args := #[m], argTypes := #[T] })
    (hT : Tryd.prog.underlying T = some (.map 38 E)) (mb : Nat) (es : Array MapEntry) (c : Nat) (hx : a.eval m = .map (some mb)) (hm : w.heap[mb]? = some (.map es c)) (hk : wpList Tryd.prog ops Q rest (a.put o.dst (.int .i64 es.size)) w) : wpList Tryd.prog ops Q (o :: rest) a w := by
  refine wpList_plain hgd fun K hK => ?_
  have hrun := run_ln hT w mb es c hm o.type
  unfold Oper.wp
  simp [execOp, hop, resolve, invoke, builtin, hx, hrun, Result.andThen]
  exact hK _ _ hk
theorem ccount_any {N bb mb : Nat} {l : List Opn} {w : World} (h : Bu N w bb mb l) :
    Calls Tryd.prog 23 #[.pointer (some ⟨bb, 0, none⟩)] w fun e w' => e = .returned (.int .i64 l.length) ∧ w = w' := by
  have c0 := h.cell
  obtain ⟨m, es, c, hM, ho, hp⟩ := h.mp
  have HM := hid hM.at'
  have HS : Hid (es.size = l.length) := hid (by have := hM.size; have := hp.length_eq; simp at *; omega)
  obtain ⟨k, hk⟩ : ∃ k, l.length = k := ⟨_, rfl⟩
  rw [hk] at HS ⊢
  clear hk hM ho hp h
  go_enter Tryd.func23, Tryd.ntmps23
  go_wp2_with (refine wpList_ln rfl _ rfl Tryd.underlying77 mb es c rfl HM.out ?_; rw [HS.out])
  go_ret
  exact ⟨rfl, rfl⟩

theorem nodup_eq {l : List Ent} (h : (l.map (·.1)).Nodup) {x y : Ent} (hx : x ∈ l) (hy : y ∈ l) (e : x.1 = y.1) : x = y := by
  induction l with
  | nil => cases hx
  | cons z l ih =>
    rw [List.map_cons, List.nodup_cons] at h
    rcases List.mem_cons.1 hx with h1 | h1 <;> rcases List.mem_cons.1 hy with h2 | h2
    · rw [h1, h2]
    · exact absurd (by rw [← h1, e]; exact List.mem_map_of_mem h2) h.1
    · exact absurd (by rw [← h2, ← e]; exact List.mem_map_of_mem h1) h.1
    · exact ih h.2 h1 h2
theorem zero_op (w : World) : (zeroValue 43).run Tryd.prog w = .ok (opv Opn.zero (.slice none 0 0)) w := by kernel_rfl
/-- What a look-up finds. -/
theorem look_op {N bb mb : Nat} {l : List Opn} {w : World} (h : Bu N w bb mb l) {m : List (Opn × Value)} {es : Array MapEntry} {c : Nat} (hM : Mp w mb (ents m) es c) (ho : Ow9 N w m) (hp : (m.map (·.1)).Perm l) (p : Nat) (r n : Int) (b : Bool) :
    ∃ q u, (∃ va vn vc, u = .slice va vn vc) ∧ (((r, n) ∈ l.map ido2 ∧ ∃ j : Nat, m[j]? = some (q, u) ∧ ido2 q = (r, n)) ∨ ((r, n) ∉ l.map ido2 ∧ q = Opn.zero ∧ u = .slice none 0 0)) ∧
      ∀ W, Bq W bb mb p m es c r n → (Instr.lookup 77 (.map (some mb)) (idv r n) b).run Tryd.prog W = .ok (if b then .tuple #[opv q u, .bool (decide ((r, n) ∈ l.map ido2))] else opv q u) W := by
  have hnd := ents_nodup hp h.wl.1
  by_cases hin : (r, n) ∈ l.map ido2
  · have h1 := (perm_ids hp).mem_iff.2 hin
    obtain ⟨x, hx, e⟩ := List.mem_map.1 h1
    obtain ⟨⟨q, u⟩, hq, rfl⟩ := List.mem_map.1 hx
    obtain ⟨va, vc, hv, _⟩ := (ho.cuts _ hq).form
    obtain ⟨j, hj⟩ := List.getElem?_of_mem hq
    refine ⟨q, u, ⟨_, _, _, hv⟩, .inl ⟨hin, j, hj, e⟩, fun W hW => ?_⟩
    have := run_lk_some Tryd.underlying77 r n W mb es c (ents m) hW.mp.at' hW.mp.em b (opv q u) (fun y hy ey => by rw [nodup_eq hnd hy hx (ey.trans e.symm)]) ⟨_, hx, e⟩
    rw [this, decide_eq_true hin]
  · refine ⟨Opn.zero, .slice none 0 0, ⟨_, _, _, rfl⟩, .inr ⟨hin, rfl, rfl⟩, fun W hW => ?_⟩
    have := run_lk_none Tryd.underlying77 r n W mb es c (ents m) hW.mp.at' hW.mp.em b (opv Opn.zero (.slice none 0 0)) (zero_op W) (fun y hy ey => hin ((perm_ids hp).mem_iff.1 (by rw [← ey]; exact List.mem_map_of_mem hy)))
    rw [this, decide_eq_false hin]

set_option maxHeartbeats 1000000 in
theorem waits_any {N bb mb : Nat} {l : List Opn} {w : World} (h : Bu N w bb mb l) (r n : Int) :
    Calls Tryd.prog 44 #[.pointer (some ⟨bb, 0, none⟩), idv r n] w fun e w' => e = .returned (.bool (decide ((r, n) ∈ l.map ido2))) ∧ Below w.heap.size w w' := by
  obtain ⟨m, es, c, hM, ho, hp⟩ := h.mp
  obtain ⟨q, u, hu, _, hlk⟩ := look_op h hM ho hp w.heap.size r n true
  have HA := hid (ba w (ido 38 r n))
  have HB := hid h.at'
  obtain ⟨b, hb⟩ : ∃ b, decide ((r, n) ∈ l.map ido2) = b := ⟨_, rfl⟩
  rw [hb] at hlk ⊢
  have HLK := hid hlk
  have HM := hid hM
  have HU := hid hu
  clear hM ho hp h hlk hu hb
  go_enter Tryd.func44, Tryd.ntmps44
  go_upto_region 1 with (fail)
  refine waits_r (bb := bb) (mb := mb) (p := w.heap.size) (m := m) (es := es) (c := c) (r := r) (n := n) (q := q) (u := u) (b := b) ⟨(HA.out.block bb (heap_in HB.out)).trans HB.out, HM.out.below HA.out, ⟨_, heap_alloc_new w _⟩⟩ HLK.out HU.out (fun _ _ _ _ _ h => h) ?_
  intro pb W hW _ _
  go_wp2_with fail
  go_ret
  exact ⟨rfl, bt HA.out hW⟩

end Go.Proofs.YtaojeanoojnknaaDoor

/-
  What Offer answers, and leaves, is proved here.
-/
namespace Go.Proofs.YtaojeanoojnknaaDoor
open Go.RowKit
set_option linter.unusedVariables false
set_option maxRecDepth 100000

theorem wpList_load_opk {ops : Array Oper} {rest : List Oper} {p : Oper} {a : Act} {w : World} {Q : Exit → Act → World → Prop} (hgd : Region.wanted p (yielded ops a.tmps) = true) (x : Operand) (ho : p.op = .load 43 x)
    (b : Nat) (hx : a.eval x = .pointer (some ⟨b, 0, none⟩)) (o : Opn) (v : Value) (h : Ob w b o v) (hk : wpList Tryd.prog ops Q rest (a.put p.dst (opv o v)) w) : wpList Tryd.prog ops Q (p :: rest) a w := by
  refine BigFrame.wpList_want hgd fun K hK => ?_
  have hrun := run_load_op ho hx h
  unfold Oper.wp
  rw [hrun]
  exact hK _ _ hk
/-- What Offer leaves. -/
def OfX (N bb mb : Nat) (w : World) (V : List Int) (l : List Opn) (o : Opn) (e : Ending) (w' : World) : Prop :=
  e = .returned (.int .i64 (offC V l o)) ∧ Bu N w' bb mb (offL V l o) ∧ Fr (fun k => k = mb) w w'
theorem OfX.no {N bb mb : Nat} {w w' : World} {V : List Int} {l : List Opn} {o : Opn} (h : Bu N w bb mb l) (hb : Below w.heap.size w w') {k : Int} (hk : offC V l o = k) (h0 : k ≠ 0) : OfX N bb mb w V l o (.returned (.int .i64 k)) w' := by
  refine ⟨by rw [hk], ?_, Fr.of_below hb⟩
  unfold offL
  rw [if_neg (by rw [hk]; exact h0)]
  exact h.below hb

set_option maxHeartbeats 4000000 in
theorem offer_box {N bb mb vb : Nat} {V : List Int} {l : List Opn} (A : Value) (o : Opn) (u : Value) (hA : A = opv o u) (w : World) (h : Bu N w bb mb l) (hV : Vc w vb V) (hL : Lay w) (hC : Cs w u o.cuts) (hf : o.fine) (hl : o.cuts.length ≤ 100000) (hN : N ≤ w.heap.size) (hn : l.length ≤ 1000000) :
    Calls Tryd.prog 14 #[.pointer (some ⟨bb, 0, none⟩), .pointer (some ⟨vb, 0, none⟩), A] w fun e w' => OfX N bb mb w V l o e w' := by
  have HH := hid h
  have HV := hid hV
  have HL := hid hL
  have HC := hid hC
  have HF := hid hf
  have HCL := hid hl
  have HA := hid hA
  have HN := hid hN
  clear h hV hL hC hf hl hA hN
  have BOX : ∀ w1, Ob w1 w.heap.size o u → Below w.heap.size w w1 → Hid (Oc w1 w.heap.size o u) := fun w1 h _ => hid h.cells
  cases hr : rightO o
  · have HE : Hid (offC V l o = 10) := hid (by unfold offC; rw [if_pos hr])
    go_enter Tryd.func14, Tryd.ntmps14
    go_wp2_with (first | (refine wpList_box_op rfl _ rfl A rfl o u HA.out ?_; intro w1 hob hb1 hlt1; have HO1 := hid hob; have B1 := hid hb1; clear hob hb1 hlt1) | (refine wpList_load_op rfl _ rfl w.heap.size rfl o u HO1.out ?_) | fail)
    refine (right_any o u w1 (HL.out.below B1.out) (HC.out.below B1.out) HF.out).mono ?_
    rintro e w2 ⟨rfl, b2⟩
    rw [hr]
    have B2 := hid (bt B1.out b2)
    clear b2 hr
    go_wp2_with fail
    go_ret
    exact OfX.no HH.out B2.out HE.out (by decide)
  · cases hh : hasV V o.ir o.im
    · cases hi : decide (ido2 o ∈ l.map ido2)
      · have hi' : ido2 o ∉ l.map ido2 := by simpa using hi
        have HI := hid hi'
        have HR := hid hr
        have HHV := hid hh
        have HCNT : ∀ W, Bu N W bb mb l → _ := fun W hW => ccount_any hW
        obtain ⟨k, hk⟩ : ∃ k, l.length = k := ⟨_, rfl⟩
        cases hq : decide (64 ≤ k)
        · have hE : offC V l o = 0 := by
            unfold offC
            have : ¬ 64 ≤ k := by simpa using hq
            rw [if_neg (by rw [hr]; simp), if_neg (by rw [hh]; simp [hi']), if_neg (by rw [hk]; exact fun e => this e.1)]
          have HE := hid hE
          have HK := hid hk
          have hq2 : decide ((64 : Int) ≤ (k : Int)) = false := by simp at hq ⊢; omega
          have HQ := hid hq2
          clear hE hi' hr hh hq hk
          go_enter Tryd.func14, Tryd.ntmps14
          go_wp2_with (first | (refine wpList_box_op rfl _ rfl A rfl o u HA.out ?_; intro w1 hob hb1 hlt1; have HO1 := hid hob; have B1 := hid hb1; clear hob hb1 hlt1) | (refine wpList_load_op rfl _ rfl w.heap.size rfl o u HO1.out ?_) | fail)
          refine (right_any o u w1 (HL.out.below B1.out) (HC.out.below B1.out) HF.out).mono ?_
          rintro e w2 ⟨rfl, b2⟩
          rw [HR.out]
          have HO2 := hid (HO1.out.below b2)
          have B2 := hid (bt B1.out b2)
          have c1 := HO2.out.cells.c1
          have c2 := HO2.out.cells.c2
          clear b2
          go_wp2_with fail
          refine (has_any vb V o.ir o.im w2 (HV.out.below B2.out)).mono ?_
          rintro e w3 ⟨rfl, b3⟩
          rw [HHV.out]
          have HO3 := hid (HO2.out.below b3)
          have B3 := hid (bt B2.out b3)
          clear b3 c1 c2
          have c1 := HO3.out.cells.c1
          have c2 := HO3.out.cells.c2
          go_wp2_with fail
          refine (waits_any (HH.out.below B3.out) o.ir o.im).mono ?_
          rintro e w4 ⟨rfl, b4⟩
          rw [hi]
          have HO4 := hid (HO3.out.below b4)
          have B4 := hid (bt B3.out b4)
          clear b4 c1 c2
          go_wp2_with fail
          refine (ccount_any (HH.out.below B4.out)).mono ?_
          rintro e w5 ⟨rfl, rfl⟩
          rw [HK.out]
          have hq3 := HQ.out
          go_upto_region 7 with fail
          obtain ⟨m, es, c, hM, ho, hp⟩ := (HH.out.below B4.out).mp
          have A1 := HA.out
          subst A1
          have hlt := HH.out.lt
          refine offer_r (bb := bb) (mb := mb) (p := w.heap.size) (m := m) (es := es) (c := c) (o := o) (v := u) ⟨(HH.out.below B4.out).at', HO4.out, hlt.2.2.2.2, by have := HN.out; omega⟩ hM (HC.out.below B4.out) HF.out HCL.out
            (fun x hx e => HI.out ((perm_ids hp).mem_iff.1 (by rw [← show x.1 = ido2 o from e]; exact List.mem_map_of_mem hx))) (fun _ _ _ _ _ h => h) ?_
          intro u1 W hW hc1 hu1
          have B5 := hid (bt B4.out hW)
          have S5 := hid B4.out.size
          have HB5 := (HH.out.below B4.out).below hW
          have hout := hid (Bu.put (V := V) HB5 (hM.below hW) (ho.fr (S := fun _ => False) (Fr.of_below hW) (fun _ _ e => e)) hp HR.out HI.out hc1 (fun j hj => by have h1 := hu1 j hj; have h2 := S5.out; have h3 := HN.out; omega))
          have hfr := hid (Fr.trans (Fr.of_below (S := fun k => k = mb) B5.out) (Fr.put W mb (.map (es.push ⟨idv o.ir o.im, opv o u1, c⟩) (c + 1))) (fun _ _ e => e))
          go_wp2_with fail
          go_ret
          refine ⟨by rw [HE.out]; rfl, ?_, hfr.out⟩
          unfold offL
          rw [if_pos HE.out]
          exact hout.out
        · have hq2 : decide ((64 : Int) ≤ (k : Int)) = true := by simp at hq ⊢; omega
          cases hy : readyO V o
          · have hE : offC V l o = 14 := by
              unfold offC
              have : 64 ≤ k := by simpa using hq
              rw [if_neg (by rw [hr]; simp), if_neg (by rw [hh]; simp [hi']), if_pos ⟨by rw [hk]; exact this, hy⟩]
            have HE := hid hE
            have HK := hid hk
            have HQ := hid hq2
            have HY := hid hy
            clear hE hi' hr hh hq hk hq2 hy
            go_enter Tryd.func14, Tryd.ntmps14
            go_wp2_with (first | (refine wpList_box_op rfl _ rfl A rfl o u HA.out ?_; intro w1 hob hb1 hlt1; have HO1 := hid hob; have B1 := hid hb1; clear hob hb1 hlt1) | (refine wpList_load_op rfl _ rfl w.heap.size rfl o u HO1.out ?_) | fail)
            refine (right_any o u w1 (HL.out.below B1.out) (HC.out.below B1.out) HF.out).mono ?_
            rintro e w2 ⟨rfl, b2⟩
            rw [HR.out]
            have HO2 := hid (HO1.out.below b2)
            have B2 := hid (bt B1.out b2)
            have c1 := HO2.out.cells.c1
            have c2 := HO2.out.cells.c2
            clear b2
            go_wp2_with fail
            refine (has_any vb V o.ir o.im w2 (HV.out.below B2.out)).mono ?_
            rintro e w3 ⟨rfl, b3⟩
            rw [HHV.out]
            have HO3 := hid (HO2.out.below b3)
            have B3 := hid (bt B2.out b3)
            clear b3 c1 c2
            have c1 := HO3.out.cells.c1
            have c2 := HO3.out.cells.c2
            go_wp2_with fail
            refine (waits_any (HH.out.below B3.out) o.ir o.im).mono ?_
            rintro e w4 ⟨rfl, b4⟩
            rw [hi]
            have HO4 := hid (HO3.out.below b4)
            have B4 := hid (bt B3.out b4)
            clear b4 c1 c2
            go_wp2_with fail
            refine (ccount_any (HH.out.below B4.out)).mono ?_
            rintro e w5 ⟨rfl, rfl⟩
            rw [HK.out]
            have hq3 := HQ.out
            go_wp2_with (first | (refine wpList_load_opk rfl _ rfl w.heap.size rfl o u HO4.out ?_) | fail)
            refine (cready_any vb V o u w4 (HL.out.below B4.out) (HV.out.below B4.out) (HC.out.below B4.out) HF.out HCL.out).mono ?_
            rintro e w6 ⟨rfl, b6⟩
            rw [HY.out]
            have B6 := hid (bt B4.out b6)
            clear b6
            go_wp2_with fail
            go_ret
            exact OfX.no HH.out B6.out HE.out (by decide)
          · have hE : offC V l o = 0 := by
              unfold offC
              rw [if_neg (by rw [hr]; simp), if_neg (by rw [hh]; simp [hi']), if_neg (by rw [hy]; simp)]
            have HE := hid hE
            have HK := hid hk
            have HQ := hid hq2
            have HY := hid hy
            clear hE hi' hr hh hq hk hq2 hy
            go_enter Tryd.func14, Tryd.ntmps14
            go_wp2_with (first | (refine wpList_box_op rfl _ rfl A rfl o u HA.out ?_; intro w1 hob hb1 hlt1; have HO1 := hid hob; have B1 := hid hb1; clear hob hb1 hlt1) | (refine wpList_load_op rfl _ rfl w.heap.size rfl o u HO1.out ?_) | fail)
            refine (right_any o u w1 (HL.out.below B1.out) (HC.out.below B1.out) HF.out).mono ?_
            rintro e w2 ⟨rfl, b2⟩
            rw [HR.out]
            have HO2 := hid (HO1.out.below b2)
            have B2 := hid (bt B1.out b2)
            have c1 := HO2.out.cells.c1
            have c2 := HO2.out.cells.c2
            clear b2
            go_wp2_with fail
            refine (has_any vb V o.ir o.im w2 (HV.out.below B2.out)).mono ?_
            rintro e w3 ⟨rfl, b3⟩
            rw [HHV.out]
            have HO3 := hid (HO2.out.below b3)
            have B3 := hid (bt B2.out b3)
            clear b3 c1 c2
            have c1 := HO3.out.cells.c1
            have c2 := HO3.out.cells.c2
            go_wp2_with fail
            refine (waits_any (HH.out.below B3.out) o.ir o.im).mono ?_
            rintro e w4 ⟨rfl, b4⟩
            rw [hi]
            have HO4 := hid (HO3.out.below b4)
            have B4 := hid (bt B3.out b4)
            clear b4 c1 c2
            go_wp2_with fail
            refine (ccount_any (HH.out.below B4.out)).mono ?_
            rintro e w5 ⟨rfl, rfl⟩
            rw [HK.out]
            have hq3 := HQ.out
            go_wp2_with (first | (refine wpList_load_opk rfl _ rfl w.heap.size rfl o u HO4.out ?_) | fail)
            refine (cready_any vb V o u w4 (HL.out.below B4.out) (HV.out.below B4.out) (HC.out.below B4.out) HF.out HCL.out).mono ?_
            rintro e w6 ⟨rfl, b6⟩
            rw [HY.out]
            have HO6 := hid (HO4.out.below b6)
            have B6 := hid (bt B4.out b6)
            clear b6
            go_upto_region 7 with fail
            obtain ⟨m, es, c, hM, ho, hp⟩ := (HH.out.below B6.out).mp
            have A1 := HA.out
            subst A1
            have hlt := HH.out.lt
            refine offer_r (bb := bb) (mb := mb) (p := w.heap.size) (m := m) (es := es) (c := c) (o := o) (v := u) ⟨(HH.out.below B6.out).at', HO6.out, hlt.2.2.2.2, by have := HN.out; omega⟩ hM (HC.out.below B6.out) HF.out HCL.out
              (fun x hx e => HI.out ((perm_ids hp).mem_iff.1 (by rw [← show x.1 = ido2 o from e]; exact List.mem_map_of_mem hx))) (fun _ _ _ _ _ h => h) ?_
            intro u1 W hW hc1 hu1
            have B7 := hid (bt B6.out hW)
            have S6 := hid B6.out.size
            have HB7 := (HH.out.below B6.out).below hW
            have hout := hid (Bu.put (V := V) HB7 (hM.below hW) (ho.fr (S := fun _ => False) (Fr.of_below hW) (fun _ _ e => e)) hp HR.out HI.out hc1 (fun j hj => by have h1 := hu1 j hj; have h2 := S6.out; have h3 := HN.out; omega))
            have hfr := hid (Fr.trans (Fr.of_below (S := fun k => k = mb) B7.out) (Fr.put W mb (.map (es.push ⟨idv o.ir o.im, opv o u1, c⟩) (c + 1))) (fun _ _ e => e))
            go_wp2_with fail
            go_ret
            refine ⟨by rw [HE.out]; rfl, ?_, hfr.out⟩
            unfold offL
            rw [if_pos HE.out]
            exact hout.out
      · have hi' : ido2 o ∈ l.map ido2 := by simpa using hi
        have HE : Hid (offC V l o = 12) := hid (by unfold offC; rw [if_neg (by rw [hr]; simp), if_pos (.inr hi')])
        have HR := hid hr
        have HHV := hid hh
        clear hi' hr hh
        go_enter Tryd.func14, Tryd.ntmps14
        go_wp2_with (first | (refine wpList_box_op rfl _ rfl A rfl o u HA.out ?_; intro w1 hob hb1 hlt1; have HO1 := hid hob; have B1 := hid hb1; clear hob hb1 hlt1) | (refine wpList_load_op rfl _ rfl w.heap.size rfl o u HO1.out ?_) | fail)
        refine (right_any o u w1 (HL.out.below B1.out) (HC.out.below B1.out) HF.out).mono ?_
        rintro e w2 ⟨rfl, b2⟩
        rw [HR.out]
        have HO2 := hid (HO1.out.below b2)
        have B2 := hid (bt B1.out b2)
        have c1 := HO2.out.cells.c1
        have c2 := HO2.out.cells.c2
        clear b2
        go_wp2_with fail
        refine (has_any vb V o.ir o.im w2 (HV.out.below B2.out)).mono ?_
        rintro e w3 ⟨rfl, b3⟩
        rw [HHV.out]
        have HO3 := hid (HO2.out.below b3)
        have B3 := hid (bt B2.out b3)
        clear b3 c1 c2
        have c1 := HO3.out.cells.c1
        have c2 := HO3.out.cells.c2
        go_wp2_with fail
        refine (waits_any (HH.out.below B3.out) o.ir o.im).mono ?_
        rintro e w4 ⟨rfl, b4⟩
        rw [hi]
        have B4 := hid (bt B3.out b4)
        clear b4 c1 c2
        go_wp2_with fail
        go_ret
        exact OfX.no HH.out B4.out HE.out (by decide)
    · have HE : Hid (offC V l o = 12) := hid (by unfold offC; rw [if_neg (by rw [hr]; simp), if_pos (.inl hh)])
      have HR := hid hr
      have HHV := hid hh
      clear hr hh
      go_enter Tryd.func14, Tryd.ntmps14
      go_wp2_with (first | (refine wpList_box_op rfl _ rfl A rfl o u HA.out ?_; intro w1 hob hb1 hlt1; have HO1 := hid hob; have B1 := hid hb1; clear hob hb1 hlt1) | (refine wpList_load_op rfl _ rfl w.heap.size rfl o u HO1.out ?_) | fail)
      refine (right_any o u w1 (HL.out.below B1.out) (HC.out.below B1.out) HF.out).mono ?_
      rintro e w2 ⟨rfl, b2⟩
      rw [HR.out]
      have HO2 := hid (HO1.out.below b2)
      have B2 := hid (bt B1.out b2)
      have c1 := HO2.out.cells.c1
      have c2 := HO2.out.cells.c2
      clear b2
      go_wp2_with fail
      refine (has_any vb V o.ir o.im w2 (HV.out.below B2.out)).mono ?_
      rintro e w3 ⟨rfl, b3⟩
      rw [HHV.out]
      have B3 := hid (bt B2.out b3)
      clear b3 c1 c2
      go_wp2_with fail
      go_ret
      exact OfX.no HH.out B3.out HE.out (by decide)
theorem offer_any {N bb mb vb : Nat} {V : List Int} {l : List Opn} (o : Opn) (u : Value) (w : World) (h : Bu N w bb mb l) (hV : Vc w vb V) (hL : Lay w) (hC : Cs w u o.cuts) (hf : o.fine) (hl : o.cuts.length ≤ 100000) (hN : N ≤ w.heap.size) (hn : l.length ≤ 1000000) :
    Calls Tryd.prog 14 #[.pointer (some ⟨bb, 0, none⟩), .pointer (some ⟨vb, 0, none⟩), opv o u] w fun e w' => OfX N bb mb w V l o e w' := offer_box _ o u rfl w h hV hL hC hf hl hN hn

end Go.Proofs.YtaojeanoojnknaaDoor

/-
  What Take and Drop answer, and leave, is proved here.
-/
namespace Go.Proofs.YtaojeanoojnknaaDoor
open Go.RowKit
set_option linter.unusedVariables false
set_option maxRecDepth 100000

/-- What Take tells, and leaves. -/
def TkX (N bb mb : Nat) (w : World) (V : List Int) (l : List Opn) (e : Ending) (w' : World) : Prop :=
  ∃ q u b, e = .returned (.tuple #[opv q u, .bool b]) ∧ Cs w' u q.cuts ∧ (∀ k, u.ownBlock = some k → N ≤ k) ∧ (takO V l = if b then some q else none) ∧ (b = false → q = Opn.zero ∧ u = .slice none 0 0) ∧ Bu N w' bb mb (takL V l) ∧ Fr (fun k => k = mb) w w'

theorem tak_at {V : List Int} {l : List Opn} {k : Nat} (hk : k < l.length) (hn : ∀ o ∈ l.take k, readyO V o = false) (hr : readyO V l[k] = true) : takO V l = some l[k] ∧ l.Perm (l[k] :: takL V l) := by
  have e : l = l.take k ++ l[k] :: l.drop (k + 1) := by rw [← List.drop_eq_getElem_cons hk, List.take_append_drop]
  have h1 : takO V l = some l[k] := by
    unfold takO
    rw [List.find?_eq_some_iff_append]
    exact ⟨hr, _, _, e, fun a ha => by simp [hn a ha]⟩
  have h2 : takL V l = l.take k ++ l.drop (k + 1) := by
    obtain ⟨x, hx⟩ : ∃ x, l[k] = x := ⟨_, rfl⟩
    unfold takL
    rw [hx] at e hr
    conv => lhs; rw [e]
    rw [List.eraseP_append_right _ (fun b hb => by simp [hn b hb]), List.eraseP_cons_of_pos hr]
  refine ⟨h1, ?_⟩
  rw [h2]
  conv => lhs; rw [e]
  exact List.perm_middle
theorem tak_none {V : List Int} {l : List Opn} (hn : ∀ o ∈ l, readyO V o = false) : takO V l = none ∧ takL V l = l := by
  refine ⟨?_, ?_⟩
  · unfold takO
    rw [List.find?_eq_none]
    intro x hx
    simp [hn x hx]
  · unfold takL
    exact List.eraseP_of_forall_not (fun x hx => by simp [hn x hx])
theorem ent_at {m : List (Opn × Value)} {j : Nat} {q : Opn} {u : Value} {x : Int × Int} (hj : m[j]? = some (q, u)) (e : ido2 q = x) : (ents m)[j]? = some (x, opv q u) := by simp [hj, e]
/-- The op of a name. -/
theorem one_of_name {l : List Opn} (h : Srted l) {p q : Opn} (hp : p ∈ l) (hq : q ∈ l) (e : ido2 p = ido2 q) : p = q := by
  obtain ⟨i, hi⟩ := List.getElem?_of_mem hp
  obtain ⟨j, hj⟩ := List.getElem?_of_mem hq
  have hn := srted_nodup h
  have e1 : (l.map ido2)[i]? = some (ido2 p) := by simp [hi]
  have e2 : (l.map ido2)[j]? = some (ido2 q) := by simp [hj]
  have hil := (List.getElem?_eq_some_iff.1 e1).1
  have : i = j := (List.getElem?_inj hil hn).1 (by rw [e1, e2, e])
  subst this
  rw [hi] at hj
  exact Option.some.inj hj

/-- One op less, seen from where the call began. -/
theorem Bu.less {N : Nat} {w w8 : World} {bb mb : Nat} {l l' : List Opn} (h : Bu N w bb mb l) {m : List (Opn × Value)} (ho : Ow9 N w m) (hp : (m.map (·.1)).Perm l) {j : Nat} {p : Opn × Value} (hj : m[j]? = some p) (hl : l.Perm (p.1 :: l')) (hw : Wl l')
    (hf : Fr (fun k => k = mb) w w8) {es : Array MapEntry} {c : Nat} (hM : Mp w8 mb ((ents m).eraseIdx j) es c) : Bu N w8 bb mb l' := by
  have hN := h.lt
  obtain ⟨hjl, hjp⟩ := List.getElem?_eq_some_iff.1 hj
  refine ⟨by rw [hf.block bb h.blt (by omega)]; exact h.at', ⟨m.eraseIdx j, es, c, ?_, ?_, ?_⟩, hw, h.lt⟩
  · rw [← erase_map] at hM
    exact hM
  · have h9 := ho.fr hf (fun k hk e => by omega)
    exact ⟨fun p hp => h9.cuts p (List.mem_of_mem_eraseIdx hp), fun p hp => h9.far p (List.mem_of_mem_eraseIdx hp)⟩
  · have e1 : (p :: m.eraseIdx j).Perm m := by rw [← hjp]; exact erase_perm m j hjl
    have e2 := (e1.map (·.1)).trans (hp.trans hl)
    rw [List.map_cons] at e2
    exact List.Perm.cons_inv e2

set_option maxHeartbeats 4000000 in
theorem ctake_any {N bb mb vb : Nat} {V : List Int} {l : List Opn} (w : World) (h : Bu N w bb mb l) (hV : Vc w vb V) (hL : Lay w) (hN : N ≤ w.heap.size) (hn : l.length ≤ 1000000) :
    Calls Tryd.prog 17 #[.pointer (some ⟨bb, 0, none⟩), .pointer (some ⟨vb, 0, none⟩)] w fun e w' => TkX N bb mb w V l e w' := by
  have HA := hid (ba w (opo Opn.zero (.slice none 0 0)))
  have HZ := hid (Ob.new w Opn.zero (.slice none 0 0))
  have HH := hid h
  have HV := hid hV
  have HL := hid hL
  have HN := hid hN
  have HI := hid (ids_any (h.below HA.out) hn)
  obtain ⟨m, es, c, hM0, hOw0, hp0⟩ := h.mp
  have HM0 := hid hM0
  have HOW0 := hid hOw0
  have HP := hid hp0
  clear h hV hL hN hM0 hOw0 hp0
  obtain ⟨n, hln⟩ : ∃ n, l.length = n := ⟨_, rfl⟩
  have HLN := hid hln
  clear hln
  go_enter Tryd.func17, Tryd.ntmps17
  go_wp2_with fail
  refine HI.out.mono ?_
  rintro e w2 ⟨iv, rfl, hns, b2⟩
  have hnl : (l.map ido2).length = n := by rw [List.length_map]; exact HLN.out
  obtain ⟨ia, ic, hiv, _⟩ := hns.form
  rw [hnl] at hiv
  subst hiv
  have HNS := hid hns
  have B2 := hid (bt HA.out b2)
  have HZ2 := hid (HZ.out.below b2)
  have hn9 : n ≤ 1000000 := by have := HLN.out; omega
  clear hns b2 hnl HI
  go_wp2
  go_loopw [7, 8, 12] (fun p q i wr => ∃ k : Nat, i = .int .i64 k ∧ k ≤ n ∧ (∀ o ∈ l.take k, readyO V o = false) ∧ Below w2.heap.size w2 wr) (fun _ _ i _ => n - (intOf i).toNat)
  case atStart => exact ⟨0, rfl, Nat.zero_le _, by simp, Below.refl _ _⟩
  case round =>
    obtain ⟨k, rfl, hk, hall, hb⟩ := hrel
    have HB := hid hb
    have HALL := hid hall
    have BW := hid (bt B2.out hb)
    have HZR := hid (HZ2.out.below hb)
    have HBU := hid (HH.out.below BW.out)
    clear hb hall
    by_cases hlt : k < n
    · have hlt' : (k : Int) < (n : Int) := by omega
      have hx : k < l.length := by rw [HLN.out]; exact hlt
      have hx' : k < (l.map ido2).length := by rw [List.length_map]; exact hx
      obtain ⟨b, off, c', e1, _, _, hbl, hc⟩ := HNS.out.inv (by omega)
      rw [show (l.map ido2).length = n from by rw [List.length_map]; exact HLN.out] at e1
      simp only [Value.slice.injEq] at e1
      obtain ⟨rfl, -, rfl⟩ := e1
      have hc := hc k hx'
      obtain ⟨o, ho⟩ : ∃ o, l[k] = o := ⟨_, rfl⟩
      rw [List.getElem_map, ho] at hc
      have HO := hid ho
      have c0 := (HB.out.cell (p := ⟨b, off + k * 2, none⟩) hbl).trans hc.1
      have c1 := (HB.out.cell (p := ⟨b, off + k * 2 + 1, none⟩) hbl).trans hc.2
      clear hc ho
      have HID := hid (ba wr (ido 38 o.ir o.im))
      have HMEM : Hid (o ∈ l) := hid (by rw [← HO.out]; exact List.getElem_mem hx)
      have hM := HM0.out.below BW.out
      have hOw := HOW0.out.fr (S := fun _ => False) (Fr.of_below BW.out) (fun _ _ e => e)
      obtain ⟨q, u, hu, hfnd, hlk⟩ := look_op HBU.out hM hOw HP.out wr.heap.size o.ir o.im false
      obtain ⟨j, hj, hqo⟩ : ∃ j : Nat, m[j]? = some (q, u) ∧ ido2 q = (o.ir, o.im) := by
        rcases hfnd with ⟨_, j, hj, hq⟩ | ⟨hno, _⟩
        · exact ⟨j, hj, hq⟩
        · exact absurd (List.mem_map_of_mem (f := ido2) HMEM.out) hno
      have hqm : q ∈ l := HP.out.mem_iff.1 (List.mem_map_of_mem (f := (·.1)) (List.mem_of_getElem? hj))
      obtain rfl : q = o := one_of_name HH.out.wl.1 hqm HMEM.out hqo
      have HJ := hid hj
      have HM := hid hM
      have HLK : Hid (∀ W, Bq W bb mb wr.heap.size m es c q.ir q.im → (Instr.lookup 77 (.map (some mb)) (idv q.ir q.im) false).run Tryd.prog W = .ok (opv q u) W) := hid hlk
      have HU := hid hu
      have HCU := hid (hOw.cuts _ (List.mem_of_getElem? hj))
      have HFU := hid (hOw.far _ (List.mem_of_getElem? hj))
      have HR := hid (right_small (HH.out.wl.2 q HMEM.out))
      clear hM hOw hfnd hlk hj hqo hqm hu
      go_upto_region 4 with (fail)
      refine take_r (bb := bb) (mb := mb) (p := wr.heap.size) (m := m) (es := es) (c := c) (r := q.ir) (n := q.im) (q := q) (u := u) ⟨(HID.out.block bb (heap_in HBU.out.at')).trans HBU.out.at', HM.out.below HID.out, ⟨_, heap_alloc_new wr _⟩⟩ HLK.out HU.out (fun _ _ _ _ _ h => h) ?_
      intro pb W hW hob hpb
      have HOB := hid hob
      have BW4 := hid (bt HID.out hW)
      have B4 := hid (bt BW.out BW4.out)
      have HIW : Hid (Idb W wr.heap.size q.ir q.im) := hid (by
        have h1 : Idb (wr.alloc (ido 38 q.ir q.im)) wr.heap.size q.ir q.im := ⟨_, heap_alloc_new wr _⟩
        exact h1.below hW)
      have HPB := hid hpb
      clear hob hW hpb
      cases hr : readyO V q
      · have HRD := hid hr
        clear hr
        go_wp2_with (first | (refine wpList_load_op rfl _ rfl pb rfl q u HOB.out ?_) | fail)
        refine (cready_any vb V q u W (HL.out.below B4.out) (HV.out.below B4.out) (HCU.out.below BW4.out) HR.out.1 (by have := HR.out.2; omega)).mono ?_
        rintro e w6 ⟨rfl, b6⟩
        rw [HRD.out]
        have B6 := hid (HB.out.trans ((bt BW4.out b6).mono HB.out.size))
        clear b6
        go_wp2_with fail
        go_roundw
        case rel =>
          refine ⟨k + 1, by go_num, hlt, ?_, B6.out⟩
          intro y hy
          rw [List.take_succ_eq_append_getElem hx, List.mem_append, List.mem_singleton] at hy
          rcases hy with hy | rfl
          · exact HALL.out y hy
          · rw [HO.out]; exact HRD.out
        case measure => simp [intOf]; omega
      · have HRD := hid hr
        clear hr
        go_wp2_with (first | (refine wpList_load_op rfl _ rfl pb rfl q u HOB.out ?_) | fail)
        refine (cready_any vb V q u W (HL.out.below B4.out) (HV.out.below B4.out) (HCU.out.below BW4.out) HR.out.1 (by have := HR.out.2; omega)).mono ?_
        rintro e w6 ⟨rfl, b6⟩
        rw [HRD.out]
        have HOB6 := hid (HOB.out.below b6)
        have HIW6 := hid (HIW.out.below b6)
        have BW6 := hid (bt BW4.out b6)
        have HZ6 := hid (HZR.out.below BW6.out)
        have B6 := hid (bt BW.out BW6.out)
        have HBU6 := hid (HBU.out.below BW6.out)
        have HM6 := hid (HM.out.below BW6.out)
        have HLT := hid HH.out.lt
        have hkey := hid (ents_nodup HP.out HH.out.wl.1)
        clear b6
        go_upto_region 6 with (fail)
        refine take_d (bb := bb) (mb := mb) (p := wr.heap.size) (m := m) (es := es) (c := c) (r := q.ir) (n := q.im) (j := j) (v := opv q u) ⟨HBU6.out.at',HIW6.out,HLT.out.2.2.2.2,by have h1 := HN.out; have h2 := HLT.out; have h3 := BW.out.size; omega⟩ HM6.out hkey.out (ent_at HJ.out rfl) (fun _ _ _ _ _ h => h) ?_
        have hbd : Below w6.heap.size w6 (World.drew w6) := bd w6 1
        have hput := Fr.put (World.drew w6) mb (.map (es.eraseIdxIfInBounds j) c)
        obtain ⟨w7, hw7⟩ : ∃ w7, (World.drew w6).putObj mb (.map (es.eraseIdxIfInBounds j) c) = w7 := ⟨_, rfl⟩
        have htk := tak_at hx HALL.out (by rw [HO.out]; exact HRD.out)
        rw [HO.out] at htk
        have hM7 := (HM6.out.below hbd).del j
        rw [hw7] at hM7
        have HM7 := hid hM7
        rw [hw7] at hput ⊢
        have hp2 : pb ≠ mb := by have h1 := HPB.out; have h2 := HLT.out; have h3 := HN.out; have h4 := BW.out.size; have h5 := HID.out.size; omega
        have hw2 : w.heap.size ≠ mb := by have h2 := HLT.out; have h3 := HN.out; omega
        have HOB7 : Hid (Ob w7 pb q u) := hid ((hput.block pb (HOB6.out.below hbd).lt hp2).trans (HOB6.out.below hbd))
        have HZ7 : Hid (Ob w7 w.heap.size Opn.zero (.slice none 0 0)) := hid ((hput.block w.heap.size (HZ6.out.below hbd).lt hw2).trans (HZ6.out.below hbd))
        have F7 := hid (Fr.trans (Fr.of_below (S := fun k => k = mb) (bt B6.out hbd)) hput (fun _ _ e => e))
        have HT := hid htk
        clear hbd hput hw7 htk hp2 hw2 hM7
        go_wp2_with (first | (refine wpList_load_op rfl _ rfl pb rfl q u HOB7.out ?_) | (refine wpList_store_op rfl _ _ rfl _ rfl q u HU.out rfl _ _ HZ7.out ?_))
        refine bodyPost_ret (results_op2 rfl _ _ rfl (b := w.heap.size) (o := q) (v := u) (by obtain ⟨va, vn, vc, hv⟩ := HU.out; subst hv; exact setRow_heap _ _ _ _ _ _ HZ7.out)) rfl ?_
        have hf8 := Fr.of_row w7 w.heap.size (opl q u)
        have hw9 := HH.out.blt
        have hl9 := HLT.out
        have hN9 := HN.out
        have F8 : Fr (fun k => k = mb) w (w7.setRow w.heap.size (opl q u)) := F7.out.trans hf8 (fun i hi e => by omega)
        have hM8 := HM7.out.kept (hf8.block mb HM7.out.lt (by omega))
        exact ⟨q, u, true, rfl, (HOW0.out.cuts _ (List.mem_of_getElem? HJ.out)).frm F8 (fun j hj e => by have h1 := HFU.out j hj; omega), HFU.out, by rw [HT.out.1]; rfl, (fun e => by cases e), HH.out.less HOW0.out HP.out HJ.out HT.out.2 (HH.out.wl.erase V) F8 hM8, F8⟩
    · obtain rfl : k = n := by omega
      have hnlt : ¬ (k : Int) < (k : Int) := by omega
      go_wp2_with (first | (refine wpList_build_zero rfl rfl ?_) | (refine wpList_store_op rfl _ _ rfl _ rfl Opn.zero (.slice none 0 0) ⟨_, _, _, rfl⟩ rfl _ _ HZR.out ?_))
      refine bodyPost_ret (results_op2 rfl _ _ rfl (b := w.heap.size) (o := Opn.zero) (v := .slice none 0 0) (setRow_heap _ _ _ _ _ _ HZR.out)) rfl ?_
      have hf8 := Fr.of_row wr w.heap.size (opl Opn.zero (.slice none 0 0))
      have htk := tak_none (V := V) (l := l) (fun o ho => HALL.out o (by rw [List.take_of_length_le (by rw [HLN.out]; exact Nat.le_refl _)]; exact ho))
      have hb9 := below_fr BW.out hf8 (Nat.le_refl _)
      refine ⟨Opn.zero, .slice none 0 0, false, rfl, Cs.nil _, (fun k hk => by cases hk), by rw [htk.1]; rfl, (fun _ => ⟨rfl, rfl⟩), by rw [htk.2]; exact HH.out.below hb9, Fr.of_below hb9⟩

end Go.Proofs.YtaojeanoojnknaaDoor

/-
  What Drop answers, and leaves, is proved here.
-/
namespace Go.Proofs.YtaojeanoojnknaaDoor
open Go.RowKit
set_option linter.unusedVariables false
set_option maxRecDepth 100000

theorem filter_erase {α : Type} (f : α → Bool) : ∀ (l : List α) (j : Nat) (h : j < l.length), f l[j] = false → (l.eraseIdx j).filter f = l.filter f
  | [], _, h, _ => absurd h (Nat.not_lt_zero _)
  | x :: l, 0, _, hf => by
    have hf' : ¬ f x = true := by simpa using hf
    rw [List.filter_cons, if_neg hf']
    rfl
  | x :: l, j + 1, h, hf => by
    have := filter_erase f l j (by simpa using h) (by simpa using hf)
    rw [List.eraseIdx_cons_succ, List.filter_cons, List.filter_cons, this]
theorem nodup_erase {α : Type} {l : List α} {j : Nat} {x : α} (h : l.Nodup) (hj : l[j]? = some x) : x ∉ l.eraseIdx j := by
  intro hx
  obtain ⟨hjl, hjx⟩ := List.getElem?_eq_some_iff.1 hj
  have := (erase_perm l j hjl).nodup_iff.2 h
  rw [hjx, List.nodup_cons] at this
  exact this.1 hx

def keepV (V : List Int) (o : Opn) : Bool := !hasV V o.ir o.im
/-- A Drop under way. -/
structure Dr (V : List Int) (w : World) (mb : Nat) (m : List (Opn × Value)) (wr : World) (r : Nat) (mR : List (Opn × Value)) (es : Array MapEntry) (c : Nat) (seen : Array Nat) : Prop where
  rn : Rn wr mb r (ents mR) es c seen
  sub : mR.Sublist m
  fil : mR.filter (fun p => keepV V p.1) = m.filter (fun p => keepV V p.1)
  seen : ∀ e ∈ es.toList, seen.contains e.born = true → hasV V (idOf e.key).1 (idOf e.key).2 = false
  fr : Fr (fun k => k = mb) w wr
theorem em_at {es : List MapEntry} {m : List (Opn × Value)} (h : Em es (ents m)) {i : Nat} {e : MapEntry} (hi : es[i]? = some e) : ∃ p, m[i]? = some p ∧ ido2 p.1 = idOf e.key ∧ e.val = opv p.1 p.2 := by
  have h1 : (es.map (fun e => (e.key, e.val)))[i]? = some (e.key, e.val) := by simp [hi]
  rw [h] at h1
  simp only [List.getElem?_map, Option.map_eq_some_iff] at h1
  obtain ⟨x, ⟨p, hp, rfl⟩, hx⟩ := h1
  simp only [Prod.mk.injEq] at hx
  exact ⟨p, hp, by rw [← hx.1]; rfl, hx.2.symm⟩
theorem Dr.all {V : List Int} {w : World} {mb : Nat} {m : List (Opn × Value)} {wr : World} {r : Nat} {mR : List (Opn × Value)} {es : Array MapEntry} {c : Nat} {seen : Array Nat} (h : Dr V w mb m wr r mR es c seen) (h0 : LfNone es seen) : mR = m.filter (fun p => keepV V p.1) := by
  rw [← h.fil]
  symm
  rw [List.filter_eq_self]
  intro p hp
  obtain ⟨i, hi⟩ := List.getElem?_of_mem hp
  have hl := h.rn.mp.em.len
  have hil : i < es.toList.length := by rw [hl]; simpa using (List.getElem?_eq_some_iff.1 hi).1
  obtain ⟨p', hp', hk, _⟩ := em_at h.rn.mp.em (List.getElem?_eq_getElem hil)
  rw [hi] at hp'
  obtain rfl := Option.some.inj hp'
  have hm : es.toList[i] ∈ es.toList := List.getElem_mem hil
  have hs : seen.contains (es.toList[i]).born = true := by
    have hnone : (leftOf es seen).toList = [] := List.eq_nil_of_length_eq_zero (by have h1 := h0; unfold LfNone at h1; simpa using h1)
    rw [left_list, List.filter_eq_nil_iff] at hnone
    simpa using hnone _ hm
  have := h.seen _ hm hs
  rw [← hk] at this
  simp [keepV, this]
/-- A name that stays. -/
theorem Dr.stay {V : List Int} {w : World} {mb : Nat} {m : List (Opn × Value)} {wr w' : World} {r : Nat} {mR : List (Opn × Value)} {es : Array MapEntry} {c : Nat} {seen : Array Nat} (h : Dr V w mb m wr r mR es c seen) {e : MapEntry} (he : LfIn es seen e)
    (hk : hasV V (idOf e.key).1 (idOf e.key).2 = false) (hr : Rn w' mb r (ents mR) es c (seen.push e.born)) (hf : Fr (fun k => k = mb) w w') : Dr V w mb m w' r mR es c (seen.push e.born) := by
  refine ⟨hr, h.sub, h.fil, fun e' he' hs => ?_, hf⟩
  rw [push_contains, Bool.or_eq_true] at hs
  rcases hs with hs | hs
  · exact h.seen e' he' hs
  · have hb : e'.born = e.born := by simpa using hs
    have hm : e ∈ es.toList := by
      have := he
      unfold LfIn at this
      rw [left_list, List.mem_filter] at this
      exact this.1
    have h1 := find_born e es.toList h.rn.mp.nd hm
    have h2 := find_born e' es.toList h.rn.mp.nd he'
    rw [hb] at h2
    rw [h1] at h2
    obtain rfl := Option.some.inj h2
    exact hk
/-- A name that goes. -/
theorem Dr.go {V : List Int} {w : World} {mb : Nat} {m : List (Opn × Value)} {wr w' : World} {r : Nat} {mR : List (Opn × Value)} {es : Array MapEntry} {c : Nat} {seen : Array Nat} (h : Dr V w mb m wr r mR es c seen) {e : MapEntry} {i : Nat} (hi : es.toList[i]? = some e)
    {p : Opn × Value} (hp : mR[i]? = some p) (hk : keepV V p.1 = false) (hr : Rn w' mb r (ents (mR.eraseIdx i)) (es.eraseIdxIfInBounds i) c (seen.push e.born)) (hf : Fr (fun k => k = mb) w w') : Dr V w mb m w' r (mR.eraseIdx i) (es.eraseIdxIfInBounds i) c (seen.push e.born) := by
  obtain ⟨hpl, hpx⟩ := List.getElem?_eq_some_iff.1 hp
  refine ⟨hr, (List.eraseIdx_sublist _ _).trans h.sub, ?_, fun e' he' hs => ?_, hf⟩
  · rw [filter_erase _ mR i hpl (by rw [hpx]; exact hk)]
    exact h.fil
  · rw [erase_toList] at he'
    rw [push_contains, Bool.or_eq_true] at hs
    rcases hs with hs | hs
    · exact h.seen e' (List.mem_of_mem_eraseIdx he') hs
    · have hb : e'.born = e.born := by simpa using hs
      have h1 : (es.toList.map (·.born))[i]? = some e.born := by simp [hi]
      have h2 := nodup_erase h.rn.mp.nd h1
      rw [← erase_map] at h2
      exact absurd (by rw [← hb]; exact List.mem_map_of_mem he') h2
theorem left_less {es : Array MapEntry} {seen : Array Nat} {e : MapEntry} (hn : (es.toList.map (·.born)).Nodup) (he : LfIn es seen e) (i : Nat) : (leftOf (es.eraseIdxIfInBounds i) (seen.push e.born)).size < (leftOf es seen).size := by
  have h1 := (left_step hn he).length_eq
  have h2 : (leftOf (es.eraseIdxIfInBounds i) (seen.push e.born)).toList.length ≤ (leftOf es (seen.push e.born)).toList.length := by
    rw [left_list, left_list, erase_toList]
    exact ((List.eraseIdx_sublist _ _).filter _).length_le
  simp only [List.length_cons, Array.length_toList] at h1 h2
  omega

/-- What Drop tells, and leaves. -/
def DrX (N bb mb : Nat) (w : World) (V : List Int) (l : List Opn) (e : Ending) (w' : World) : Prop :=
  e = .returned (.int .i64 ((l.length : Int) - ((drpL V l).length : Int))) ∧ Bu N w' bb mb (drpL V l) ∧ Fr (fun k => k = mb) w w'

set_option maxHeartbeats 4000000 in
theorem cdrop_any {N bb mb vb : Nat} {V : List Int} {l : List Opn} (w : World) (h : Bu N w bb mb l) (hV : Vc w vb V) (hvb : vb ≠ mb) (hN : N ≤ w.heap.size) (hn : l.length ≤ 1000000) :
    Calls Tryd.prog 21 #[.pointer (some ⟨bb, 0, none⟩), .pointer (some ⟨vb, 0, none⟩)] w fun e w' => DrX N bb mb w V l e w' := by
  have HH := hid h
  have HV := hid hV
  have HN := hid hN
  obtain ⟨m, es, c, hM0, hOw0, hp0⟩ := h.mp
  have HM0 := hid hM0
  have HOW0 := hid hOw0
  have HP := hid hp0
  have HC := hid (ccount_any h)
  have c0 := h.cell
  obtain ⟨n, hln⟩ : ∃ n, l.length = n := ⟨_, rfl⟩
  have HLN := hid hln
  rw [hln] at HC hn
  have HD0 : Hid (Dr V w mb m (w.alloc (.mapIter (some mb) c #[] c)) w.heap.size m es c #[]) := hid ⟨Rn.start hM0, List.Sublist.refl _, rfl, (fun e _ hs => by simp at hs), Fr.of_below (ba w _)⟩
  have HLT := hid h.lt
  clear h hV hN hM0 hOw0 hp0 hln
  go_enter Tryd.func21, Tryd.ntmps21
  go_wp2_with fail
  refine HC.out.mono ?_
  rintro e w2 ⟨rfl, rfl⟩
  go_wp2_with (first | (at_range; refine wpList_rg rfl _ _ _ rfl Tryd.underlying77 mb es c rfl HM0.out.at' ?_) | fail)
  go_frame
  go_loopw [6] (fun _ wr => ∃ (mR : List (Opn × Value)) (esR : Array MapEntry) (seen : Array Nat), Dr V w mb m wr w.heap.size mR esR c seen) (fun _ wr => wr.rangeLeft mb w.heap.size)
  case atStart => exact ⟨m, es, #[], HD0.out⟩
  case round =>
    obtain ⟨mR, esR, seen, hD⟩ := hrel
    have HD := hid hD
    have HRN := hid hD.rn
    clear hD
    go_wp2_with (first | (at_next; refine wpList_nx rfl _ rfl rfl HRN.out ?_ ?_) | fail)
    · intro h0
      have hm := HD.out.all h0
      have hF := HD.out.fr
      have hO := HOW0.out.fr hF (fun k hk e => by have := HLT.out; omega)
      have hpm : (mR.map (·.1)).Perm (drpL V l) := by
        rw [hm]
        have e1 : (m.filter (fun p => keepV V p.1)).map (·.1) = (m.map (·.1)).filter (keepV V) := by
          rw [List.filter_map]
          rfl
        rw [e1]
        exact HP.out.filter _
      have HB : Hid (Bu N wr bb mb (drpL V l)) := hid ⟨by rw [hF.block bb HH.out.blt (by have := HLT.out; omega)]; exact HH.out.at', ⟨mR, esR, c, HRN.out.mp, ⟨fun p hp => hO.cuts p (HD.out.sub.subset hp), fun p hp => hO.far p (HD.out.sub.subset hp)⟩, hpm⟩, HH.out.wl.filter _, HH.out.lt⟩
      have HF := hid hF
      have hle : (drpL V l).length ≤ n := by rw [← HLN.out]; exact List.length_filter_le _ _
      obtain ⟨k, hk⟩ : ∃ k, (drpL V l).length = k := ⟨_, rfl⟩
      have HK := hid hk
      have HC2 := hid (ccount_any HB.out)
      rw [hk] at HC2 hle
      have hle2 : (0 : Int) ≤ (n : Int) - (k : Int) ∧ (n : Int) - (k : Int) ≤ 1000000 := by omega
      have hwr : wrap64 ((n : Int) - (k : Int)) = (n : Int) - (k : Int) := by unfold wrap64; omega
      have HWR := hid hwr
      clear hm hF hO hpm hk hwr hle hle2 h0
      go_wp2_with fail
      refine HC2.out.mono ?_
      rintro e w3 ⟨rfl, rfl⟩
      go_wp2
      go_ret
      refine ⟨?_, HB.out, HF.out⟩
      rw [HLN.out, HK.out]
      show Ending.returned (.int .i64 (wrap64 ((n : Int) - (k : Int)))) = _
      rw [HWR.out]
    · intro e he w2 hr2 hg2 hen
      have hm : e ∈ esR.toList := by
        have := he
        unfold LfIn at this
        rw [left_list, List.mem_filter] at this
        exact this.1
      have hkey : e.key = idv (idOf e.key).1 (idOf e.key).2 := HRN.out.mp.em.key hm
      obtain ⟨i, hi⟩ := List.getElem?_of_mem hm
      obtain ⟨p, hp, hpk, hpv⟩ := em_at HRN.out.mp.em hi
      obtain ⟨⟨a, b⟩, hx⟩ : ∃ x, idOf e.key = x := ⟨_, rfl⟩
      rw [hx] at hkey hpk
      obtain ⟨kv, hkv⟩ : ∃ v, e.val = v := ⟨_, rfl⟩
      rw [hkey, hkv] at hen ⊢
      have HE : Hid (LfIn esR seen e) := hid he
      have HX := hid hx
      have HI := hid hi
      have HP1 := hid hp
      have HPK := hid hpk
      have HR2 := hid hr2
      have HF2 : Hid (Fr (fun k => k = mb) w w2) := hid (HD.out.fr.trans (Fr.of_grown (S := fun k => k = w.heap.size) hg2 (fun k e => by cases e; rfl)) (fun j hj e => by omega))
      have HBB2 : Hid (w2.heap[bb]? = some (.cells #[.map (some mb)] 79 (0, 0))) := hid (by rw [HF2.out.block bb HH.out.blt (by have := HLT.out; omega)]; exact HH.out.at')
      have HV2 : Hid (Vc w2 vb V) := hid (HV.out.fr HF2.out hvb)
      have HHS := hid (has_any vb V a b (w2.alloc (ido 38 a b)) (HV2.out.below (ba w2 _)))
      have HA2 := hid (ba w2 (ido 38 a b))
      clear he hx hkey hkv hr2 hg2 hm hi hp hpk hpv
      cases hh : hasV V a b
      · have HHV := hid hh
        clear hh
        go_wp2_with fail
        refine HHS.out.mono ?_
        rintro e5 w5 ⟨rfl, b5⟩
        rw [HHV.out]
        have hb5 := bt HA2.out b5
        have HR5 := hid (HR2.out.below hb5)
        have HF5 : Hid (Fr (fun k => k = mb) w w5) := hid (HF2.out.trans (Fr.of_below (S := fun _ => False) hb5) (fun _ _ e => e.elim))
        clear b5 hb5
        go_wp2_with fail
        go_roundw
        case rel => exact ⟨mR, esR, _, HD.out.stay HE.out (by rw [HX.out]; exact HHV.out) HR5.out HF5.out⟩
        case measure =>
          rw [HR5.out.left, HRN.out.left]
          have := (left_step HRN.out.mp.nd HE.out).length_eq
          simp at this
          omega
      · have HHV := hid hh
        clear hh
        go_wp2_with fail
        refine HHS.out.mono ?_
        rintro e5 w5 ⟨rfl, b5⟩
        rw [HHV.out]
        have hb5 := bt HA2.out b5
        have HR5 := hid (HR2.out.below hb5)
        have HF5 : Hid (Fr (fun k => k = mb) w w5) := hid (HF2.out.trans (Fr.of_below (S := fun _ => False) hb5) (fun _ _ e => e.elim))
        have HBB5 : Hid (w5.heap[bb]? = some (.cells #[.map (some mb)] 79 (0, 0))) := hid (by rw [hb5.block bb (heap_in HBB2.out)]; exact HBB2.out)
        have HI5 : Hid (Idb w5 w2.heap.size a b) := hid (by
          have h1 : Idb (w2.alloc (ido 38 a b)) w2.heap.size a b := ⟨_, heap_alloc_new w2 _⟩
          exact h1.below b5)
        have hnd : ((ents mR).map (·.1)).Nodup := by
          have h1 := ents_nodup HP.out HH.out.wl.1
          exact List.Nodup.sublist ((HD.out.sub.map _).map _) h1
        have HND := hid hnd
        clear b5 hb5 hnd
        go_upto_region 6 with (fail)
        refine drop_d (bb := bb) (mb := mb) (p := w2.heap.size) (m := mR) (es := esR) (c := c) (r := a) (n := b) (j := i) (v := opv p.1 p.2) ⟨HBB5.out, HI5.out, HLT.out.2.2.2.2, by have h1 := HR2.out.mp.lt; omega⟩ HR5.out.mp HND.out (ent_at HP1.out HPK.out) (fun _ _ _ _ _ h => h) ?_
        have hbd : Below w5.heap.size w5 (World.drew w5) := bd w5 1
        have hput := Fr.put (World.drew w5) mb (.map (esR.eraseIdxIfInBounds i) c)
        have hM7 := (HR5.out.mp.below hbd).del i
        obtain ⟨w7, hw7⟩ : ∃ w7, (World.drew w5).putObj mb (.map (esR.eraseIdxIfInBounds i) c) = w7 := ⟨_, rfl⟩
        rw [hw7] at hput hM7 ⊢
        have HF7 : Hid (Fr (fun k => k = mb) w w7) := hid ((HF5.out.trans (Fr.of_below (S := fun _ => False) hbd) (fun _ _ e => e.elim)).trans hput (fun _ _ e => e))
        have HR7 : Hid (Rn w7 mb w.heap.size (ents (mR.eraseIdx i)) (esR.eraseIdxIfInBounds i) c (seen.push e.born)) := hid (by
          obtain ⟨q0, hq, hq2⟩ := (HR5.out.below hbd).it
          refine ⟨by unfold ents; rw [erase_map]; exact hM7, ⟨q0, (hput.block w.heap.size (heap_in hq) HR5.out.ne).trans hq, hq2⟩, HR5.out.ne⟩)
        have HKP : Hid (keepV V p.1 = false) := hid (by
          have h1 : p.1.ir = a ∧ p.1.im = b := by have := HPK.out; simpa using this
          unfold keepV
          rw [h1.1, h1.2, HHV.out]
          rfl)
        clear hbd hput hM7 hw7
        go_wp2_with fail
        go_roundw
        case rel => exact ⟨_, _, _, HD.out.go HI.out HP1.out HKP.out HR7.out HF7.out⟩
        case measure =>
          rw [HR7.out.left, HRN.out.left]
          exact left_less HRN.out.mp.nd HE.out i

end Go.Proofs.YtaojeanoojnknaaDoor

/-
  A buffer and a vector that a law holds side by side ('Sx'), and what the calls make of them; what the law's block answers.
-/
namespace Go.Proofs.YtaojeanoojnknaaDoor
open Go.RowKit
set_option linter.unusedVariables false
set_option maxRecDepth 100000

theorem lay_two {w : World} (h : Lay w) : 2 ≤ w.heap.size := by
  have := World.block_lt_of_cell? _ _ h.t1
  exact this
structure Sx (w0 : World) (N bb mb vb : Nat) (W : World) (V : List Int) (l : List Opn) : Prop where
  lay : Lay W
  bu : Bu N W bb mb l
  vc : Vc W vb V
  ne : vb ≠ mb ∧ vb ≠ bb ∧ vb < N ∧ 2 ≤ vb
  le : N ≤ W.heap.size
  bw : Below w0.heap.size w0 W
  lo : w0.heap.size ≤ bb ∧ w0.heap.size ≤ mb ∧ w0.heap.size ≤ vb
section
variable {w0 : World} {N bb mb vb : Nat} {W W' : World} {V : List Int} {l : List Opn}
theorem Sx.below (h : Sx w0 N bb mb vb W V l) (hb : Below W.heap.size W W') : Sx w0 N bb mb vb W' V l :=
  ⟨h.lay.below hb, h.bu.below hb, h.vc.below hb, h.ne, Nat.le_trans h.le hb.size, bt h.bw hb, h.lo⟩
theorem Sx.mfr {l' : List Opn} (h : Sx w0 N bb mb vb W V l) (hu : Bu N W' bb mb l') (hf : Fr (fun k => k = mb) W W') : Sx w0 N bb mb vb W' V l' :=
  ⟨lay_fr h.lay hf h.bu.lt.2.1 (lay_two h.lay), hu, h.vc.fr hf h.ne.1, h.ne, Nat.le_trans h.le hf.size, below_fr h.bw hf h.lo.2.1, h.lo⟩
theorem Sx.vfr {V' : List Int} (h : Sx w0 N bb mb vb W V l) (hv : Vc W' vb V') (hf : Fr (fun k => k = vb) W W') : Sx w0 N bb mb vb W' V' l :=
  ⟨lay_fr h.lay hf h.ne.2.2.2 (lay_two h.lay), h.bu.fr hf (fun e => h.ne.2.1 e.symm) (fun e => h.ne.1 e.symm) (fun k hk e => by have := h.ne.2.2.1; omega), hv, h.ne, Nat.le_trans h.le hf.size, below_fr h.bw hf h.lo.2.2, h.lo⟩
end
theorem sx_new {w0 W1 W2 : World} {bb mb : Nat} (hL : Lay w0) (h1 : Bu W1.heap.size W1 bb mb []) (hlo : w0.heap.size ≤ bb ∧ w0.heap.size ≤ mb) (hb1 : Below w0.heap.size w0 W1) (hv : Vc W2 W1.heap.size v0) (hb2 : Below W1.heap.size W1 W2) : Sx w0 W2.heap.size bb mb W1.heap.size W2 v0 [] := by
  have k1 := h1.blt
  have k2 := h1.mlt
  have k3 := hv.lt
  have k4 := hb1.size
  have k5 := lay_two hL
  refine ⟨hL.below (bt hb1 hb2), (h1.below hb2).up (by have := hb2.size; omega), hv, ⟨by omega, by omega, by omega, by omega⟩, Nat.le_refl _, bt hb1 hb2, ⟨hlo.1, hlo.2, by omega⟩⟩

/-- The law's block. -/
def blockO (n : Int) : Opn := ⟨1, 0, n, n, 0, 0, 0, 0, ⟨#[97]⟩, 0, 0, 0, 0, 0, 0, 0, 0, ⟨#[]⟩, [], false⟩
abbrev blockc (n : Int) : Array Value := #[.int .i64 1,.int .i64 0,.int .i64 n,.int .i64 n,.int .i64 0,.int .i64 0,.int .i64 0,.int .i64 0,.string ⟨#[97]⟩,.int .i64 0,.int .i64 0,.int .i64 0,.int .i64 0,.int .i64 0,.int .i64 0,.int .i64 0,.int .i64 0,.string ⟨#[]⟩,.slice none 0 0,.bool false]
theorem built_block (n : Int) : Tryd.prog.built 43 [(0, .int .i64 1), (1, idv 0 n), (2, .int .i64 n), (5, .string ⟨#[97]⟩)] = some (blockc n) := by kernel_rfl
theorem wpList_build_block {ops : Array Oper} {rest : List Oper} {p : Oper} {a : Act} {w : World} {Q : Exit → Act → World → Prop} (hgd : p.guard = none) (n : Int) (x y z u : Operand) (ho : p.op = .build 43 #[(0, x), (1, y), (2, z), (5, u)])
    (h0 : a.eval x = .int .i64 1) (h1 : a.eval y = idv 0 n) (h2 : a.eval z = .int .i64 n) (h3 : a.eval u = .string ⟨#[97]⟩)
    (hk : wpList Tryd.prog ops Q rest (a.put p.dst (.agg (blockc n))) w) : wpList Tryd.prog ops Q (p :: rest) a w := by
  have e : (Array.map (fun ((i, x) : Nat × Operand) => (i, a.eval x)) #[(0, x), (1, y), (2, z), (5, u)]).toList = [(0, .int .i64 1), (1, idv 0 n), (2, .int .i64 n), (5, .string ⟨#[97]⟩)] := by simp [h0, h1, h2, h3]
  refine wpList_build hgd 43 #[(0, x), (1, y), (2, z), (5, u)] ho ?_ ?_
  · rw [e, built_block]; rfl
  · rw [e, built_block]; exact hk
theorem block_any (n : Int) (w : World) : Calls Tryd.prog 36 #[.int .i64 n] w fun e w' => e = .returned (opv (blockO n) (.slice none 0 0)) ∧ Below w.heap.size w w' := by
  go_enter Tryd.func36, Tryd.ntmps36
  go_wp2_with (first | (refine wpList_al_op rfl rfl ?_; intro w3 ho3 hb3 hl3; have HO3 := hid ho3; have B3 := hid hb3; clear ho3 hb3 hl3) | (refine wpList_build_block rfl n _ _ _ _ rfl rfl rfl rfl rfl ?_) | (refine wpList_st_op (o := blockO n) (v := .slice none 0 0) rfl rfl rfl rfl ⟨_,_,_,rfl⟩ HO3.out ?_; intro w4 ho4 hf4; have HO4 := hid ho4; have HF4 := hid hf4; clear ho4 hf4))
  refine bodyPost_ret (results_cell_row rfl _ _ w.heap.size 43 (opl (blockO n) (.slice none 0 0)) (0, 0) _ rfl HO4.out Tryd.underlying43 rfl (by kernel_rfl)) rfl ?_
  exact ⟨rfl, below_fr B3.out HF4.out (Nat.le_refl _)⟩

theorem Sx.took {w0 : World} {N bb mb vb : Nat} {W W' : World} {V : List Int} {l : List Opn} {e : Ending} (h : Sx w0 N bb mb vb W V l) (ht : TkX N bb mb W V l e W') :
    ∃ q u b, e = .returned (.tuple #[opv q u, .bool b]) ∧ Cs W' u q.cuts ∧ (takO V l = if b then some q else none) ∧ (b = false → q = Opn.zero ∧ u = .slice none 0 0) ∧ Sx w0 N bb mb vb W' V (takL V l) := by
  obtain ⟨q, u, b, he, hc, _, ht, hz, hu, hf⟩ := ht
  exact ⟨q, u, b, he, hc, ht, hz, h.mfr hu hf⟩

end Go.Proofs.YtaojeanoojnknaaDoor
