/-
  Parts of the proof, one behind the other; what each proves stands at its head.
-/
import Derived.Test.YteckjkblngmenaaGreatDoorPart7
import Derived.Laws.AppendOwnNone
import Derived.Test.YteckjkblngmenaaGreatDoorPart5
import Derived.Test.YteckjkblngmenaaGreatDoorPart3

/-
  What the reference's cursor answers to Bytes and Text, and what CopyBytes returns, is proved here, for at most 2^47 bytes, and cursors that are over nothing when they are lost.
-/
namespace Go.Proofs.YteckjkblngmenaaGreatDoor
open Go.RowKit
set_option linter.unusedVariables false
set_option maxRecDepth 100000

theorem Bs.empty (w : World) (x : Addr) (c : Nat) (hc : c ≤ maxLen := by decide) : Bs w (.slice (some x) 0 c) [] :=
  ⟨some x, c, rfl, Nat.zero_le _, hc, (fun e => by cases e), fun i hi => absurd hi (Nat.not_lt_zero _), fun y hy => by cases hy⟩
theorem Bs.bound {w : World} {a : Option Addr} {n c : Nat} {xs : List Int} (h : Bs w (.slice a n c) xs) : n = xs.length ∧ xs.length ≤ c := by
  obtain ⟨a', c', h1, h2, _⟩ := h
  simp only [Value.slice.injEq] at h1
  omega

set_option maxHeartbeats 2000000 in
theorem refbytes_any (b : Nat) (xs : List Int) (lost : Bool) (n : Int) (w : World) (h : Cur 111 w b xs lost) (hl : lost = true → xs = []) (hn : xs.length ≤ 140737488355328) :
    Calls Tryz.prog 125 #[.pointer (some ⟨b, 0, none⟩), .int .i64 n] w fun e w' =>
      ∃ v, e = .returned v ∧ Bs w' v (M.takeV n xs) ∧ Cur 111 w' b (M.takeS n xs) (M.takeL n xs lost) ∧ w.grownBy w' (some b) := by
  obtain ⟨a, c, hB, hc0, hc1, hf0, hf1⟩ := h.cells
  have HB := hid hB
  have HC := hid h
  have hlen := hB.len
  have hlc := hB.bound.2
  unfold maxLen at hlen
  clear hB h
  cases lost with
  | true =>
    have := hl rfl
    subst this
    have e1 : M.takeV n [] = [] := by unfold M.takeV; split <;> simp
    have e2 : M.takeS n [] = [] := by unfold M.takeS; split <;> simp
    have e3 : M.takeL n [] true = true := by unfold M.takeL; split <;> rfl
    rw [e1, e2, e3]
    clear e1 e2 e3
    go_enter Tryz.func125, Tryz.ntmps125
    go_wp2_with fail
    refine (reflose_any b _ _ _ HC.out).mono ?_
    rintro e w1 ⟨rfl, hc, hg⟩
    go_wp2
    go_ret
    exact ⟨_, rfl, Bs.nil _, hc, hg⟩
  | false =>
    clear hl
    by_cases hok : M.takeOk n xs = true
    · have hn' : 0 ≤ n ∧ n ≤ xs.length := by unfold M.takeOk at hok; simpa using hok
      obtain ⟨h0, h1⟩ := hn'
      rw [show M.takeV n xs = xs.take n.toNat by simp [M.takeV, hok], show M.takeS n xs = xs.drop n.toNat by simp [M.takeS, hok], show M.takeL n xs false = false by simp [M.takeL, hok]]
      clear hok
      obtain ⟨k, rfl⟩ := Int.eq_ofNat_of_zero_le h0
      rw [Int.toNat_natCast]
      have hk : k ≤ xs.length := by omega
      have hT := Bs.take HB.out k hk
      have HT := hid hT
      clear h0
      obtain ⟨i0, hi, hz0, hz1, hz2⟩ := info_parts info_u8
      have hown0 : (w.alloc (.cells #[] 5)).ownsRow w.heap.size 5 1 (.slice (some ⟨w.heap.size, 0, none⟩) 0 0) 0 [] := World.ownsRow_made w #[] 0 (Nat.le_refl _) (Nat.zero_le _) rfl
      have hbl := HC.out.lt
      have hck : (k : Int) ≤ (c : Int) := by omega
      cases a with
      | none =>
        have hx : xs.length = 0 ∧ c = 0 := by
          obtain ⟨a', c', h1, h2, _, h4, _⟩ := HB.out
          simp only [Value.slice.injEq] at h1
          have := h4 h1.1.symm
          omega
        have e1 : xs = [] := List.eq_nil_of_length_eq_zero hx.1
        subst e1
        have e2 : k = 0 := by simpa using hk
        have e3 := hx.2
        subst e2 e3
        have hs := HC.out.set0 (Bs.nil w)
        have HS := hid hs
        clear hs hT HB HT hx hck hk hlen hlc hn h1
        go_enter Tryz.func125, Tryz.ntmps125
        go_wp2
        go_ret
        exact ⟨_, rfl, Bs.empty _ _ _, HS.out.1.below (ba _ _), HS.out.2.trans (World.grownBy.of_below (ba _ _))⟩
      | some A =>
        have hcell := hid (cells_at hT)
        clear hT
        go_enter Tryz.func125, Tryz.ntmps125
        go_wp2_with (at_builtin; refine wpList_append_own _ rfl (.tmp 26) (.tmp 32) 36 rfl w.heap.size 5 i0 (.int .u8 0) 1 1 Tryz.underlying36 hi hz0 hz1 hz2 rfl (by decide) _ _ _ rfl hown0 A k c (cs (xs.take k)) rfl ?c0 ?c1 (ints_oneCell .u8 _) ?c3 ?c4 ?c5 ?_)
        case c0 => simp; omega
        case c1 =>
          intro j u hu
          have h1 := hcell.out j u hu
          have hb := World.block_lt_of_cell? _ _ h1
          rw [((Below.refl w.heap.size w).alloc (Nat.le_refl _) _).cell hb]
          exact h1
        case c3 => unfold maxLen; omega
        case c4 => omega
        case c5 => simp
        intro v' w1 hown hgrow _
        have hb : Below w.heap.size w w1 := ((Below.refl _ w).alloc (Nat.le_refl _) (.cells #[] 5)).grown hgrow (by simp) (by intro k hk; simp [Value.ownBlock] at hk; omega)
        have hown' : w1.ownsRow w.heap.size 5 1 v' k (cs (xs.take k)) := by simpa using hown
        have hBv : Bs w1 v' (xs.take k) := Bs.of_own hown' (fun x hx => HB.out.range x (List.mem_of_mem_take hx))
        have hd0 : w1.cell? ⟨b, 0, none⟩ = some (.slice (some A) xs.length c) := by rw [hb.cell hbl]; exact hc0
        have hd1 : w1.frozen? ⟨b, 0, none⟩ = false := by rw [hb.frozen hbl]; exact hf0
        have HC1 := hid (HC.out.below hb)
        have hs := HC1.out.set0 (Bs.drop (HB.out.below hb) k hk)
        have HS := hid hs
        have HBV := hid hBv
        have hg1 : w.grownBy w1 (some b) := World.grownBy.of_below hb
        clear hown hown' hgrow hown0 hs hBv hc0 hc1 hf0 hf1
        by_cases hcf : c = k
        · subst hcf
          go_wp2
          go_ret
          have hs := HS.out
          simp only [if_pos] at hs
          rw [show xs.length - c = 0 by omega, Nat.sub_self] at hs
          exact ⟨_, rfl, HBV.out.keeps (HC1.out.keeps hs.2), hs.1, hg1.trans hs.2⟩
        · go_wp2
          go_ret
          have hs := HS.out
          simp only [if_neg hcf, Option.map_some] at hs
          exact ⟨_, rfl, HBV.out.keeps (HC1.out.keeps hs.2), hs.1, hg1.trans hs.2⟩
    · have hn' : ¬ (0 ≤ n ∧ n ≤ xs.length) := by unfold M.takeOk at hok; simpa using hok
      rw [show M.takeV n xs = [] by simp [M.takeV, hok], show M.takeS n xs = [] by simp [M.takeS, hok], show M.takeL n xs false = true by simp [M.takeL, hok]]
      clear hok
      by_cases h0 : n < 0
      · clear hn'
        go_enter Tryz.func125, Tryz.ntmps125
        go_wp2_with fail
        refine (reflose_any b _ _ _ HC.out).mono ?_
        rintro e w1 ⟨rfl, hc, hg⟩
        go_wp2
        go_ret
        exact ⟨_, rfl, Bs.nil _, hc, hg⟩
      · have h1 : (xs.length : Int) < n := by omega
        clear hn'
        go_enter Tryz.func125, Tryz.ntmps125
        go_wp2_with fail
        refine (reflose_any b _ _ _ HC.out).mono ?_
        rintro e w1 ⟨rfl, hc, hg⟩
        go_wp2
        go_ret
        exact ⟨_, rfl, Bs.nil _, hc, hg⟩


theorem numV_nonneg {most : Int} {xs : List Int} (hx : ∀ x ∈ xs, 0 ≤ x ∧ x < 256) : 0 ≤ M.numV most xs := by
  unfold M.numV
  split
  · unfold M.fn
    split
    · rename_i p hp
      exact (M.enc_first_eq (n := p.1) (k := p.2) hx hp).1
    · exact Int.le_refl _
  · exact Int.le_refl _

theorem numL_nil {most : Int} {xs : List Int} {l : Bool} (h : l = true → xs = []) : M.numL most xs l = true → M.numS most xs = [] := by
  unfold M.numL M.numS
  by_cases hok : M.numOk most xs = true
  · simp only [hok, if_pos]
    intro e
    have := h e
    subst this
    rfl
  · simp [hok]

set_option maxHeartbeats 2000000 in
theorem reftext_any (b : Nat) (xs : List Int) (lost : Bool) (most : Int) (w : World) (h : Cur 111 w b xs lost) (hl : lost = true → xs = []) (hn : xs.length ≤ 140737488355328) :
    Calls Tryz.prog 100 #[.pointer (some ⟨b, 0, none⟩), .int .i64 most] w fun e w' =>
      e = .returned (.string (M.str (M.textV most xs))) ∧ Cur 111 w' b (M.textS most xs) (M.textL most xs lost) ∧ w.grownBy w' (some b) := by
  unfold M.textV M.textS M.textL
  have hr : ∀ x ∈ xs, 0 ≤ x ∧ x < 256 := by
    obtain ⟨v, _, hB⟩ := h
    exact hB.range
  have h0 := numV_nonneg (most := most) hr
  have hl1 := numL_nil (most := most) hl
  have hle : (M.numS most xs).length ≤ xs.length := by unfold M.numS; split <;> simp
  have HL1 := hid hl1
  clear hr hl1
  go_enter Tryz.func100, Tryz.ntmps100
  go_wp2_with fail
  refine (refnum_any b xs lost most _ h hl).mono ?_
  rintro e w1 ⟨rfl, hc1, hg1⟩
  obtain ⟨nv, hnv⟩ : ∃ nv, M.numV most xs = nv := ⟨_, rfl⟩
  obtain ⟨ys, hys⟩ : ∃ ys, M.numS most xs = ys := ⟨_, rfl⟩
  obtain ⟨l1, hl1⟩ : ∃ l1, M.numL most xs lost = l1 := ⟨_, rfl⟩
  have hHL := HL1.out
  rw [hys, hl1] at hc1 hHL
  rw [hys] at hle
  rw [hnv] at h0 ⊢
  have HNV := hid hnv
  have HYS := hid hys
  have HLL := hid hl1
  have HHL := hid hHL
  clear hnv hys hl1 hHL HL1 h hl
  obtain ⟨a, c, hB, hc0, hc11, hf0, hf1⟩ := hc1.cells
  have hlen := hB.len
  unfold maxLen at hlen
  have HC1 := hid hc1
  clear hB hc1
  cases l1 with
  | true =>
    have e0 := HHL.out rfl
    subst e0
    have e1 : M.takeV nv [] = [] := by unfold M.takeV; split <;> simp
    have e2 : M.takeS nv [] = [] := by unfold M.takeS; split <;> simp
    have e3 : M.takeL nv [] true = true := by unfold M.takeL; split <;> rfl
    have HE := hid (And.intro e1 (And.intro e2 e3))
    clear e1 e2 e3
    go_wp2_with fail
    refine (reflose_any b _ _ _ HC1.out).mono ?_
    rintro e w2 ⟨rfl, hc, hg⟩
    go_wp2
    go_ret
    rw [HNV.out, HYS.out, HLL.out, HE.out.1, HE.out.2.1, HE.out.2.2]
    exact ⟨rfl, hc, hg1.trans hg⟩
  | false =>
    by_cases hgt : (ys.length : Int) < nv
    · have hok : M.takeOk nv ys = false := by simp [M.takeOk]; omega
      have HE := hid hok
      clear hok
      go_wp2_with fail
      refine (reflose_any b _ _ _ HC1.out).mono ?_
      rintro e w2 ⟨rfl, hc, hg⟩
      go_wp2
      go_ret
      rw [HNV.out, HYS.out, HLL.out]
      simp only [M.takeV, M.takeS, M.takeL, HE.out]
      exact ⟨rfl, hc, hg1.trans hg⟩
    · go_wp2_with fail
      refine (refbytes_any b _ _ _ _ HC1.out (fun e => by cases e) (by omega)).mono ?_
      rintro e w2 ⟨v, rfl, hB2, hc2, hg2⟩
      have hcv := conv_str hB2
      go_wp2
      go_ret
      rw [HNV.out, HYS.out, HLL.out]
      exact ⟨rfl, hc2, hg1.trans hg2⟩

end Go.Proofs.YteckjkblngmenaaGreatDoor

/-
  For the laws' walks: rows of ops that a law lays (one op, two ops); what is read of a right op's bytes with a byte more, or without their end.
-/
namespace Go.Proofs.YteckjkblngmenaaGreatDoor
open Go.RowKit
set_option linter.unusedVariables false
set_option maxRecDepth 100000

theorem run_ops1 (o : Opn) (v : Value) (w : World) : (Instr.buildSlice 38 1 #[(0, opv o v)]).run Tryz.prog w = .ok (.slice (some ⟨w.heap.size, 0, none⟩) 1 1) (w.alloc (opo o v)) := by kernel_rfl
theorem wpList_ops1 {ops : Array Oper} {rest : List Oper} {p : Oper} {a : Act} {w : World} {Q : Exit → Act → World → Prop} (hgd : p.guard = none) (x : Operand) (ho : p.op = .buildSlice 38 1 #[(0, x)]) (o : Opn) (v : Value) (hx : a.eval x = opv o v)
    (hk : wpList Tryz.prog ops Q rest (a.put p.dst (.slice (some ⟨w.heap.size, 0, none⟩) 1 1)) (w.alloc (opo o v))) : wpList Tryz.prog ops Q (p :: rest) a w := by
  refine wpList_plain hgd fun K hK => ?_
  unfold Oper.wp execOp
  have e : (Array.map (fun ((i, x) : Nat × Operand) => (i, a.eval x)) #[(0, x)]) = #[(0, opv o v)] := by simp [hx]
  simp only [ho, e, Sem.run_bind, run_ops1, Result.andThen_ok]
  exact hK _ _ hk
theorem Os.one (w : World) (o : Opn) (v : Value) (h : Cs w v o.cuts) : Os (w.alloc (opo o v)) (.slice (some ⟨w.heap.size, 0, none⟩) 1 1) [(o, v)] :=
  ⟨Sl.lit w 77 (opl o v) 1 (by decide) rfl, fun p hp => by rw [List.mem_singleton.1 hp]; exact h.below (ba w _)⟩
theorem encO_len {o : Opn} (h : rightO o = true) : (encO o).length ≤ 5000 := by
  have h1 := encFs_len o (told o.k) (told_le _) (right_told h)
  have h2 := told_len o.k
  have s1 := (M.sz_pos o.k).2
  have s2 := (M.sz_pos o.ir).2
  have s3 := (M.sz_pos o.im).2
  have s4 := (M.sz_pos o.t).2
  unfold encO
  simp only [List.length_append, M.enc_length]
  omega
theorem byt_app {a b : List Int} (ha : K.Byt a) (hb : K.Byt b) : K.Byt (a ++ b) := fun x hx => (List.mem_append.1 hx).elim (ha x) (hb x)
theorem enc_byt {x : Int} (h0 : 0 ≤ x) (h1 : x ≤ 1099511627776) : K.Byt (M.enc x) := M.enc_byte x h0 (by omega)
theorem byt_flat {α : Type} {f : α → List Int} : ∀ {l : List α}, (∀ x ∈ l, K.Byt (f x)) → K.Byt (l.flatMap f) := fun h x hx => by
  obtain ⟨y, hy, hx⟩ := List.mem_flatMap.1 hx
  exact h y hy x hx
theorem encF_byt {o : Opn} {f : Nat} (hf : f ≤ 8) (h : rightF o f = true) : K.Byt (encF o f) := by
  rcases nine hf with rfl | rfl | rfl | rfl | rfl | rfl | rfl | rfl | rfl
  · have := ro_bounds (r := o.br) (n := o.bm) h
    exact byt_app (enc_byt (by omega) (by omega)) (enc_byt (by omega) (by omega))
  · have := rb_bounds (r := o.pr) (n := o.pm) h
    exact byt_app (enc_byt (by omega) (by omega)) (enc_byt (by omega) (by omega))
  · simp [rightF, K.right, tx_length] at h
    exact encText_byte _ (by omega)
  · have := ro_bounds (r := o.sr) (n := o.sm) h
    exact byt_app (enc_byt (by omega) (by omega)) (enc_byt (by omega) (by omega))
  · have := rc_bounds (r := o.lr) (n := o.lm) (i := o.li) h
    exact byt_app (byt_app (enc_byt (by omega) (by omega)) (enc_byt (by omega) (by omega))) (enc_byt (by omega) (by omega))
  · have := rc_bounds (r := o.gr) (n := o.gm) (i := o.gi) h
    exact byt_app (byt_app (enc_byt (by omega) (by omega)) (enc_byt (by omega) (by omega))) (enc_byt (by omega) (by omega))
  · simp [rightF] at h
    exact encText_byte _ (by omega)
  · simp [rightF] at h
    refine byt_app (enc_byt (by omega) (by omega)) (byt_flat fun c hc => ?_)
    have := h.2 c hc
    simp [rct, ro] at this
    exact byt_app (byt_app (byt_app (enc_byt (by omega) (by omega)) (enc_byt (by omega) (by omega))) (enc_byt (by omega) (by omega))) (enc_byt (by omega) (by omega))
  · refine enc_byt ?_ ?_ <;> split <;> omega
theorem rs_bounds {t r : Int} (h : rs t r = true) : 0 ≤ t ∧ t ≤ 1099511627776 := by
  simp [rs] at h
  omega
theorem encO_byt {o : Opn} (h : rightO o = true) : K.Byt (encO o) := by
  have hp := (right_parts h).1
  have h1 := ro_bounds hp.1
  have h2 := rs_bounds hp.2.1
  have h3 := six hp.2.2
  refine byt_app (byt_app (byt_app (byt_app (enc_byt ?_ ?_) (enc_byt ?_ ?_)) (enc_byt ?_ ?_)) (enc_byt ?_ ?_)) (byt_flat fun f hf => encF_byt (told_le _ f hf) (right_told h f hf))
  all_goals omega

end Go.Proofs.YteckjkblngmenaaGreatDoor

/-
  A field of an op in its block: loads and stores, as laws of the walk.
-/
namespace Go.Proofs.YteckjkblngmenaaGreatDoor
open Go.RowKit
set_option linter.unusedVariables false
set_option maxRecDepth 100000

section
variable {ops : Array Oper} {rest : List Oper} {p : Oper} {a : Act} {W : World} {Q : Exit → Act → World → Prop} {x y : Operand} {b i : Nat} {T : TypeId} {cells : Array Value}
theorem wpList_val (v : Value) (hw : Region.wanted p (yielded ops a.tmps) = true) (h : (execOp a.eval p).run Tryz.prog W = .ok (.value v) W) (hk : wpList Tryz.prog ops Q rest (a.put p.dst v) W) : wpList Tryz.prog ops Q (p :: rest) a W :=
  BigFrame.wpList_want hw fun K hK => by unfold Oper.wp; rw [h]; exact hK _ _ hk
theorem wpList_nil (W' : World) (hw : Region.wanted p (yielded ops a.tmps) = true) (h : (execOp a.eval p).run Tryz.prog W = .ok .skip W') (hk : wpList Tryz.prog ops Q rest (a.put p.dst undef) W') : wpList Tryz.prog ops Q (p :: rest) a W :=
  BigFrame.wpList_want hw fun K hK => by unfold Oper.wp; rw [h]; exact hK _ _ hk

theorem run_ld_id {r n : Int} (ho : p.op = .load 72 x) (hx : a.eval x = .pointer (some ⟨b, i, none⟩)) (h0 : W.cell? ⟨b, i, none⟩ = some (.int .i64 r)) (h1 : W.cell? ⟨b, i + 1, none⟩ = some (.int .i64 n)) : (execOp a.eval p).run Tryz.prog W = .ok (.value (idv r n)) W := by
  unfold execOp
  simp only [ho, hx]
  simp [go_sem, h0, h1]
theorem run_ld_char {r n k : Int} (ho : p.op = .load 74 x) (hx : a.eval x = .pointer (some ⟨b,i,none⟩)) (h0 : W.cell? ⟨b,i,none⟩ = some (.int .i64 r)) (h1 : W.cell? ⟨b,i + 1,none⟩ = some (.int .i64 n)) (h2 : W.cell? ⟨b,i + 2,none⟩ = some (.int .i64 k)) : (execOp a.eval p).run Tryz.prog W = .ok (.value (chv r n k)) W := by
  unfold execOp
  simp only [ho, hx]
  simp [go_sem, h0, h1, h2]
theorem run_ld_int {r : Int} (ho : p.op = .load 3 x) (hx : a.eval x = .pointer (some ⟨b, i, none⟩)) (h0 : W.cell? ⟨b, i, none⟩ = some (.int .i64 r)) : (execOp a.eval p).run Tryz.prog W = .ok (.value (.int .i64 r)) W := by
  unfold execOp
  simp only [ho, hx]
  simp [go_sem, h0]
theorem run_ld_str {s : ByteArray} (ho : p.op = .load 9 x) (hx : a.eval x = .pointer (some ⟨b, i, none⟩)) (h0 : W.cell? ⟨b, i, none⟩ = some (.string s)) : (execOp a.eval p).run Tryz.prog W = .ok (.value (.string s)) W := by
  unfold execOp
  simp only [ho, hx]
  simp [go_sem, h0]
theorem run_ld_bool {s : Bool} (ho : p.op = .load 4 x) (hx : a.eval x = .pointer (some ⟨b, i, none⟩)) (h0 : W.cell? ⟨b, i, none⟩ = some (.bool s)) : (execOp a.eval p).run Tryz.prog W = .ok (.value (.bool s)) W := by
  unfold execOp
  simp only [ho, hx]
  simp [go_sem, h0]
theorem run_ld_cuts {v : Value} (ho : p.op = .load 75 x) (hx : a.eval x = .pointer (some ⟨b, i, none⟩)) (h0 : W.cell? ⟨b, i, none⟩ = some v) : (execOp a.eval p).run Tryz.prog W = .ok (.value v) W := by
  unfold execOp
  simp only [ho, hx]
  simp [go_sem, h0]

theorem cell_in {W : World} (h : W.heap[b]? = some (.cells cells T (0, 0))) (hi : i < cells.size) : ∃ z, W.cell? ⟨b, i, none⟩ = some z := ⟨cells[i], by rw [cell_of_row W b i _ _ _ h]; exact Array.getElem?_eq_getElem hi⟩
theorem run_st_str {s : ByteArray} (ho : p.op = .store 9 x y) (hx : a.eval x = .pointer (some ⟨b, i, none⟩)) (hy : a.eval y = .string s) (h : W.heap[b]? = some (.cells cells T (0, 0))) (hi : i < cells.size) : (execOp a.eval p).run Tryz.prog W = .ok .skip (W.setCell ⟨b, i, none⟩ (.string s)) := by
  obtain ⟨z, hz⟩ := cell_in (W := W) h hi
  have hf := frozen_of_row W b i _ _ h
  unfold execOp
  simp only [ho, hx, hy]
  simp [go_sem, hz, hf]
theorem run_st_bool {s : Bool} (ho : p.op = .store 4 x y) (hx : a.eval x = .pointer (some ⟨b, i, none⟩)) (hy : a.eval y = .bool s) (h : W.heap[b]? = some (.cells cells T (0, 0))) (hi : i < cells.size) : (execOp a.eval p).run Tryz.prog W = .ok .skip (W.setCell ⟨b, i, none⟩ (.bool s)) := by
  obtain ⟨z, hz⟩ := cell_in (W := W) h hi
  have hf := frozen_of_row W b i _ _ h
  unfold execOp
  simp only [ho, hx, hy]
  simp [go_sem, hz, hf]
theorem run_st_int {s : Int} (ho : p.op = .store 3 x y) (hx : a.eval x = .pointer (some ⟨b, i, none⟩)) (hy : a.eval y = .int .i64 s) (h : W.heap[b]? = some (.cells cells T (0, 0))) (hi : i < cells.size) : (execOp a.eval p).run Tryz.prog W = .ok .skip (W.setCell ⟨b, i, none⟩ (.int .i64 s)) := by
  obtain ⟨z, hz⟩ := cell_in (W := W) h hi
  have hf := frozen_of_row W b i _ _ h
  unfold execOp
  simp only [ho, hx, hy]
  simp [go_sem, hz, hf]
theorem run_st_cuts {va : Option Addr} {n c : Nat} (ho : p.op = .store 75 x y) (hx : a.eval x = .pointer (some ⟨b,i,none⟩)) (hy : a.eval y = .slice va n c) (h : W.heap[b]? = some (.cells cells T (0,0))) (hi : i < cells.size) : (execOp a.eval p).run Tryz.prog W = .ok .skip (W.setCell ⟨b,i,none⟩ (.slice va n c)) := by
  obtain ⟨z, hz⟩ := cell_in (W := W) h hi
  have hf := frozen_of_row W b i _ _ h
  unfold execOp
  simp only [ho, hx, hy]
  simp [go_sem, hz, hf]
theorem run_st_id {r n : Int} (ho : p.op = .store 72 x y) (hx : a.eval x = .pointer (some ⟨b,i,none⟩)) (hy : a.eval y = idv r n) (h : W.heap[b]? = some (.cells cells T (0,0))) (hi : i + 1 < cells.size) : (execOp a.eval p).run Tryz.prog W = .ok .skip ((W.setCell ⟨b,i,none⟩ (.int .i64 r)).setCell ⟨b,i + 1,none⟩ (.int .i64 n)) := by
  obtain ⟨z, hz⟩ := cell_in (W := W) h (show i < cells.size by omega)
  have hf := frozen_of_row W b i _ _ h
  have h' := set_row (i := i) h (.int .i64 r)
  obtain ⟨z1, hz1⟩ := cell_in (i := i + 1) (W := W.setCell ⟨b, i, none⟩ (.int .i64 r)) h' (by simpa using hi)
  have hf1 := frozen_of_row (W.setCell ⟨b, i, none⟩ (.int .i64 r)) b (i + 1) _ _ h'
  unfold execOp
  simp only [ho, hx, hy]
  simp [go_sem, hz, hf, hz1, hf1]
theorem run_st_char {r n k : Int} (ho : p.op = .store 74 x y) (hx : a.eval x = .pointer (some ⟨b,i,none⟩)) (hy : a.eval y = chv r n k) (h : W.heap[b]? = some (.cells cells T (0,0))) (hi : i + 2 < cells.size) : (execOp a.eval p).run Tryz.prog W = .ok .skip (((W.setCell ⟨b,i,none⟩ (.int .i64 r)).setCell ⟨b,i + 1,none⟩ (.int .i64 n)).setCell ⟨b,i + 2,none⟩ (.int .i64 k)) := by
  obtain ⟨z, hz⟩ := cell_in (W := W) h (show i < cells.size by omega)
  have hf := frozen_of_row W b i _ _ h
  have h' := set_row (i := i) h (.int .i64 r)
  obtain ⟨z1, hz1⟩ := cell_in (i := i + 1) (W := W.setCell ⟨b, i, none⟩ (.int .i64 r)) h' (by simp; omega)
  have hf1 := frozen_of_row (W.setCell ⟨b, i, none⟩ (.int .i64 r)) b (i + 1) _ _ h'
  have h'' := set_row (i := i + 1) h' (.int .i64 n)
  obtain ⟨z2, hz2⟩ := cell_in (i := i + 2) (W := (W.setCell ⟨b, i, none⟩ (.int .i64 r)).setCell ⟨b, i + 1, none⟩ (.int .i64 n)) h'' (by simp; omega)
  have hf2 := frozen_of_row ((W.setCell ⟨b, i, none⟩ (.int .i64 r)).setCell ⟨b, i + 1, none⟩ (.int .i64 n)) b (i + 2) _ _ h''
  unfold execOp
  simp only [ho, hx, hy]
  simp [go_sem, hz, hf, hz1, hf1, hz2, hf2]
end

theorem opl_lt {i : Nat} (o : Opn) (v : Value) (h : i < 20) : i < (opl o v).size := h

section
variable {ops : Array Oper} {rest : List Oper} {p : Oper} {a : Act} {W : World} {Q : Exit → Act → World → Prop} {x y : Operand} {b : Nat} {o : Opn} {v : Value}
theorem wpList_st_block {r n : Int} (hw : Region.wanted p (yielded ops a.tmps) = true) (ho : p.op = .store 72 x y) (hx : a.eval x = .pointer (some ⟨b, 4, none⟩)) (hy : a.eval y = idv r n) (h : Ob W b o v)
    (hk : ∀ W', Ob W' b { o with br := r, bm := n } v → Fr (fun k => k = b) W W' → wpList Tryz.prog ops Q rest (a.put p.dst undef) W') : wpList Tryz.prog ops Q (p :: rest) a W :=
  wpList_nil _ hw (run_st_id ho hx hy h (opl_lt _ _ (by decide))) (hk _ (set_row (i := 5) (set_row (i := 4) h _) _) ((Fr.of_set W b 4 _).set 5 _ (.inr rfl)))
theorem wpList_st_id {r n : Int} (hw : Region.wanted p (yielded ops a.tmps) = true) (ho : p.op = .store 72 x y) (hx : a.eval x = .pointer (some ⟨b, 1, none⟩)) (hy : a.eval y = idv r n) (h : Ob W b o v)
    (hk : ∀ W', Ob W' b { o with ir := r, im := n } v → Fr (fun k => k = b) W W' → wpList Tryz.prog ops Q rest (a.put p.dst undef) W') : wpList Tryz.prog ops Q (p :: rest) a W :=
  wpList_nil _ hw (run_st_id ho hx hy h (opl_lt _ _ (by decide))) (hk _ (set_row (i := 2) (set_row (i := 1) h _) _) ((Fr.of_set W b 1 _).set 2 _ (.inr rfl)))
theorem wpList_st_t {r : Int} (hw : Region.wanted p (yielded ops a.tmps) = true) (ho : p.op = .store 3 x y) (hx : a.eval x = .pointer (some ⟨b, 3, none⟩)) (hy : a.eval y = .int .i64 r) (h : Ob W b o v)
    (hk : ∀ W', Ob W' b { o with t := r } v → Fr (fun k => k = b) W W' → wpList Tryz.prog ops Q rest (a.put p.dst undef) W') : wpList Tryz.prog ops Q (p :: rest) a W :=
  wpList_nil _ hw (run_st_int ho hx hy h (opl_lt _ _ (by decide))) (hk _ (set_row (i := 3) h _) (Fr.of_set W b 3 _))
theorem wpList_st_parent {r n : Int} (hw : Region.wanted p (yielded ops a.tmps) = true) (ho : p.op = .store 72 x y) (hx : a.eval x = .pointer (some ⟨b, 6, none⟩)) (hy : a.eval y = idv r n) (h : Ob W b o v)
    (hk : ∀ W', Ob W' b { o with pr := r, pm := n } v → Fr (fun k => k = b) W W' → wpList Tryz.prog ops Q rest (a.put p.dst undef) W') : wpList Tryz.prog ops Q (p :: rest) a W :=
  wpList_nil _ hw (run_st_id ho hx hy h (opl_lt _ _ (by decide))) (hk _ (set_row (i := 7) (set_row (i := 6) h _) _) ((Fr.of_set W b 6 _).set 7 _ (.inr rfl)))
theorem wpList_st_seg {r n : Int} (hw : Region.wanted p (yielded ops a.tmps) = true) (ho : p.op = .store 72 x y) (hx : a.eval x = .pointer (some ⟨b, 9, none⟩)) (hy : a.eval y = idv r n) (h : Ob W b o v)
    (hk : ∀ W', Ob W' b { o with sr := r, sm := n } v → Fr (fun k => k = b) W W' → wpList Tryz.prog ops Q rest (a.put p.dst undef) W') : wpList Tryz.prog ops Q (p :: rest) a W :=
  wpList_nil _ hw (run_st_id ho hx hy h (opl_lt _ _ (by decide))) (hk _ (set_row (i := 10) (set_row (i := 9) h _) _) ((Fr.of_set W b 9 _).set 10 _ (.inr rfl)))
theorem wpList_st_left {r n j : Int} (hw : Region.wanted p (yielded ops a.tmps) = true) (ho : p.op = .store 74 x y) (hx : a.eval x = .pointer (some ⟨b, 11, none⟩)) (hy : a.eval y = chv r n j) (h : Ob W b o v)
    (hk : ∀ W', Ob W' b { o with lr := r, lm := n, li := j } v → Fr (fun k => k = b) W W' → wpList Tryz.prog ops Q rest (a.put p.dst undef) W') : wpList Tryz.prog ops Q (p :: rest) a W :=
  wpList_nil _ hw (run_st_char ho hx hy h (opl_lt _ _ (by decide))) (hk _ (set_row (i := 13) (set_row (i := 12) (set_row (i := 11) h _) _) _) (((Fr.of_set W b 11 _).set 12 _ (.inr rfl)).set 13 _ (.inr rfl)))
theorem wpList_st_right {r n j : Int} (hw : Region.wanted p (yielded ops a.tmps) = true) (ho : p.op = .store 74 x y) (hx : a.eval x = .pointer (some ⟨b, 14, none⟩)) (hy : a.eval y = chv r n j) (h : Ob W b o v)
    (hk : ∀ W', Ob W' b { o with gr := r, gm := n, gi := j } v → Fr (fun k => k = b) W W' → wpList Tryz.prog ops Q rest (a.put p.dst undef) W') : wpList Tryz.prog ops Q (p :: rest) a W :=
  wpList_nil _ hw (run_st_char ho hx hy h (opl_lt _ _ (by decide))) (hk _ (set_row (i := 16) (set_row (i := 15) (set_row (i := 14) h _) _) _) (((Fr.of_set W b 14 _).set 15 _ (.inr rfl)).set 16 _ (.inr rfl)))
theorem wpList_st_key {s : ByteArray} (hw : Region.wanted p (yielded ops a.tmps) = true) (ho : p.op = .store 9 x y) (hx : a.eval x = .pointer (some ⟨b, 8, none⟩)) (hy : a.eval y = .string s) (h : Ob W b o v)
    (hk : ∀ W', Ob W' b { o with key := s } v → Fr (fun k => k = b) W W' → wpList Tryz.prog ops Q rest (a.put p.dst undef) W') : wpList Tryz.prog ops Q (p :: rest) a W :=
  wpList_nil _ hw (run_st_str ho hx hy h (opl_lt _ _ (by decide))) (hk _ (set_row (i := 8) h _) (Fr.of_set W b 8 _))
theorem wpList_st_text {s : ByteArray} (hw : Region.wanted p (yielded ops a.tmps) = true) (ho : p.op = .store 9 x y) (hx : a.eval x = .pointer (some ⟨b, 17, none⟩)) (hy : a.eval y = .string s) (h : Ob W b o v)
    (hk : ∀ W', Ob W' b { o with text := s } v → Fr (fun k => k = b) W W' → wpList Tryz.prog ops Q rest (a.put p.dst undef) W') : wpList Tryz.prog ops Q (p :: rest) a W :=
  wpList_nil _ hw (run_st_str ho hx hy h (opl_lt _ _ (by decide))) (hk _ (set_row (i := 17) h _) (Fr.of_set W b 17 _))
theorem wpList_st_cuts {va : Option Addr} {n c : Nat} (l : List Ct) (hw : Region.wanted p (yielded ops a.tmps) = true) (ho : p.op = .store 75 x y) (hx : a.eval x = .pointer (some ⟨b, 18, none⟩)) (hy : a.eval y = .slice va n c) (h : Ob W b o v)
    (hk : ∀ W', Ob W' b { o with cuts := l } (.slice va n c) → Fr (fun k => k = b) W W' → wpList Tryz.prog ops Q rest (a.put p.dst undef) W') : wpList Tryz.prog ops Q (p :: rest) a W :=
  wpList_nil _ hw (run_st_cuts ho hx hy h (opl_lt _ _ (by decide))) (hk _ (set_row (i := 18) h _) (Fr.of_set W b 18 _))
theorem wpList_st_flag {s : Bool} (hw : Region.wanted p (yielded ops a.tmps) = true) (ho : p.op = .store 4 x y) (hx : a.eval x = .pointer (some ⟨b, 19, none⟩)) (hy : a.eval y = .bool s) (h : Ob W b o v)
    (hk : ∀ W', Ob W' b { o with flag := s } v → Fr (fun k => k = b) W W' → wpList Tryz.prog ops Q rest (a.put p.dst undef) W') : wpList Tryz.prog ops Q (p :: rest) a W :=
  wpList_nil _ hw (run_st_bool ho hx hy h (opl_lt _ _ (by decide))) (hk _ (set_row (i := 19) h _) (Fr.of_set W b 19 _))

theorem wpList_ld_block (hw : Region.wanted p (yielded ops a.tmps) = true) (ho : p.op = .load 72 x) (hx : a.eval x = .pointer (some ⟨b, 4, none⟩)) (h : Ob W b o v) (hk : wpList Tryz.prog ops Q rest (a.put p.dst (idv o.br o.bm)) W) : wpList Tryz.prog ops Q (p :: rest) a W :=
  wpList_val _ hw (run_ld_id ho hx (h.cell 4) (h.cell 5)) hk
theorem wpList_ld_id (hw : Region.wanted p (yielded ops a.tmps) = true) (ho : p.op = .load 72 x) (hx : a.eval x = .pointer (some ⟨b, 1, none⟩)) (h : Ob W b o v) (hk : wpList Tryz.prog ops Q rest (a.put p.dst (idv o.ir o.im)) W) : wpList Tryz.prog ops Q (p :: rest) a W :=
  wpList_val _ hw (run_ld_id ho hx (h.cell 1) (h.cell 2)) hk
theorem wpList_ld_parent (hw : Region.wanted p (yielded ops a.tmps) = true) (ho : p.op = .load 72 x) (hx : a.eval x = .pointer (some ⟨b, 6, none⟩)) (h : Ob W b o v) (hk : wpList Tryz.prog ops Q rest (a.put p.dst (idv o.pr o.pm)) W) : wpList Tryz.prog ops Q (p :: rest) a W :=
  wpList_val _ hw (run_ld_id ho hx (h.cell 6) (h.cell 7)) hk
theorem wpList_ld_seg (hw : Region.wanted p (yielded ops a.tmps) = true) (ho : p.op = .load 72 x) (hx : a.eval x = .pointer (some ⟨b, 9, none⟩)) (h : Ob W b o v) (hk : wpList Tryz.prog ops Q rest (a.put p.dst (idv o.sr o.sm)) W) : wpList Tryz.prog ops Q (p :: rest) a W :=
  wpList_val _ hw (run_ld_id ho hx (h.cell 9) (h.cell 10)) hk
theorem wpList_ld_left (hw : Region.wanted p (yielded ops a.tmps) = true) (ho : p.op = .load 74 x) (hx : a.eval x = .pointer (some ⟨b, 11, none⟩)) (h : Ob W b o v) (hk : wpList Tryz.prog ops Q rest (a.put p.dst (chv o.lr o.lm o.li)) W) : wpList Tryz.prog ops Q (p :: rest) a W :=
  wpList_val _ hw (run_ld_char ho hx (h.cell 11) (h.cell 12) (h.cell 13)) hk
theorem wpList_ld_right (hw : Region.wanted p (yielded ops a.tmps) = true) (ho : p.op = .load 74 x) (hx : a.eval x = .pointer (some ⟨b, 14, none⟩)) (h : Ob W b o v) (hk : wpList Tryz.prog ops Q rest (a.put p.dst (chv o.gr o.gm o.gi)) W) : wpList Tryz.prog ops Q (p :: rest) a W :=
  wpList_val _ hw (run_ld_char ho hx (h.cell 14) (h.cell 15) (h.cell 16)) hk
theorem wpList_ld_kind (hw : Region.wanted p (yielded ops a.tmps) = true) (ho : p.op = .load 3 x) (hx : a.eval x = .pointer (some ⟨b, 0, none⟩)) (h : Ob W b o v) (hk : wpList Tryz.prog ops Q rest (a.put p.dst (.int .i64 o.k)) W) : wpList Tryz.prog ops Q (p :: rest) a W :=
  wpList_val _ hw (run_ld_int ho hx (h.cell 0)) hk
theorem wpList_ld_t (hw : Region.wanted p (yielded ops a.tmps) = true) (ho : p.op = .load 3 x) (hx : a.eval x = .pointer (some ⟨b, 3, none⟩)) (h : Ob W b o v) (hk : wpList Tryz.prog ops Q rest (a.put p.dst (.int .i64 o.t)) W) : wpList Tryz.prog ops Q (p :: rest) a W :=
  wpList_val _ hw (run_ld_int ho hx (h.cell 3)) hk
theorem wpList_ld_key (hw : Region.wanted p (yielded ops a.tmps) = true) (ho : p.op = .load 9 x) (hx : a.eval x = .pointer (some ⟨b, 8, none⟩)) (h : Ob W b o v) (hk : wpList Tryz.prog ops Q rest (a.put p.dst (.string o.key)) W) : wpList Tryz.prog ops Q (p :: rest) a W :=
  wpList_val _ hw (run_ld_str ho hx (h.cell 8)) hk
theorem wpList_ld_text (hw : Region.wanted p (yielded ops a.tmps) = true) (ho : p.op = .load 9 x) (hx : a.eval x = .pointer (some ⟨b, 17, none⟩)) (h : Ob W b o v) (hk : wpList Tryz.prog ops Q rest (a.put p.dst (.string o.text)) W) : wpList Tryz.prog ops Q (p :: rest) a W :=
  wpList_val _ hw (run_ld_str ho hx (h.cell 17)) hk
theorem wpList_ld_cuts (hw : Region.wanted p (yielded ops a.tmps) = true) (ho : p.op = .load 75 x) (hx : a.eval x = .pointer (some ⟨b, 18, none⟩)) (h : Ob W b o v) (hk : wpList Tryz.prog ops Q rest (a.put p.dst v) W) : wpList Tryz.prog ops Q (p :: rest) a W :=
  wpList_val _ hw (run_ld_cuts ho hx (h.cell 18)) hk
theorem wpList_ld_flag (hw : Region.wanted p (yielded ops a.tmps) = true) (ho : p.op = .load 4 x) (hx : a.eval x = .pointer (some ⟨b, 19, none⟩)) (h : Ob W b o v) (hk : wpList Tryz.prog ops Q rest (a.put p.dst (.bool o.flag)) W) : wpList Tryz.prog ops Q (p :: rest) a W :=
  wpList_val _ hw (run_ld_bool ho hx (h.cell 19)) hk
end

/-- An op of which the kind, the name and the time are told, built. -/
def headO (o : Opn) : Opn := { Opn.zero with k := o.k, ir := o.ir, im := o.im, t := o.t }
theorem built_head (k r n t : Int) : Tryz.prog.built 77 [(0, .int .i64 k), (1, idv r n), (2, .int .i64 t)] = some (opl { Opn.zero with k := k, ir := r, im := n, t := t } (.slice none 0 0)) := by kernel_rfl
theorem wpList_build_head {ops : Array Oper} {rest : List Oper} {p : Oper} {a : Act} {w : World} {Q : Exit → Act → World → Prop} (hgd : p.guard = none) (x y z : Operand) (ho : p.op = .build 77 #[(0, x), (1, y), (2, z)]) (o : Opn)
    (h0 : a.eval x = .int .i64 o.k) (h1 : a.eval y = idv o.ir o.im) (h2 : a.eval z = .int .i64 o.t)
    (hk : wpList Tryz.prog ops Q rest (a.put p.dst (opv (headO o) (.slice none 0 0))) w) : wpList Tryz.prog ops Q (p :: rest) a w := by
  have e : (Array.map (fun ((i, x) : Nat × Operand) => (i, a.eval x)) #[(0, x), (1, y), (2, z)]).toList = [(0, .int .i64 o.k), (1, idv o.ir o.im), (2, .int .i64 o.t)] := by simp [h0, h1, h2]
  refine wpList_build hgd 77 #[(0, x), (1, y), (2, z)] ho ?_ ?_
  · rw [e, built_head]; rfl
  · rw [e, built_head]; exact hk
theorem below_fr {w W W' : World} {b : Nat} (h : Below w.heap.size w W) (hf : Fr (fun k => k = b) W W') (hb : w.heap.size ≤ b) : Below w.heap.size w W' :=
  h.trans (hf.below (fun k hk e => by omega) h.size)
theorem Ob.fr {S : Nat → Prop} {W W' : World} {b : Nat} {o : Opn} {v : Value} (h : Ob W b o v) (hf : Fr S W W') (hs : ¬ S b) : Ob W' b o v := by
  unfold Ob; rw [hf.block b h.lt hs]; exact h

/-- A new op; a whole op, stored. -/
theorem run_al_op {p : Oper} {a : Act} {W : World} (ho : p.op = .alloc 77) : (execOp a.eval p).run Tryz.prog W = .ok (.value (.pointer (some ⟨W.heap.size, 0, none⟩))) (W.alloc (opo Opn.zero (.slice none 0 0))) := by
  unfold execOp
  simp only [ho]
  kernel_rfl
theorem wpList_al_op {ops : Array Oper} {rest : List Oper} {p : Oper} {a : Act} {W : World} {Q : Exit → Act → World → Prop} (hw : Region.wanted p (yielded ops a.tmps) = true) (ho : p.op = .alloc 77)
    (hk : ∀ W', Ob W' W.heap.size Opn.zero (.slice none 0 0) → Below W.heap.size W W' → W.heap.size < W'.heap.size → wpList Tryz.prog ops Q rest (a.put p.dst (.pointer (some ⟨W.heap.size, 0, none⟩))) W') : wpList Tryz.prog ops Q (p :: rest) a W :=
  BigFrame.wpList_want hw fun K hK => by unfold Oper.wp; rw [run_al_op ho]; exact hK _ _ (hk _ (Ob.new W _ _) (ba W _) (by simp))
theorem wpList_st_op {ops : Array Oper} {rest : List Oper} {p : Oper} {a : Act} {W : World} {Q : Exit → Act → World → Prop} {x y : Operand} {b : Nat} {o o' : Opn} {v v' : Value} (hgd : p.guard = none) (ho : p.op = .store 77 x y)
    (hx : a.eval x = .pointer (some ⟨b, 0, none⟩)) (hy : a.eval y = opv o v) (hv : ∃ va n vc, v = .slice va n vc) (h : Ob W b o' v')
    (hk : ∀ W', Ob W' b o v → Fr (fun k => k = b) W W' → wpList Tryz.prog ops Q rest (a.put p.dst undef) W') : wpList Tryz.prog ops Q (p :: rest) a W :=
  wpList_store_op hgd x y ho b hx o v hv hy o' v' h (hk _ (setRow_heap _ _ _ _ _ _ h) (Fr.of_row W b _))

end Go.Proofs.YteckjkblngmenaaGreatDoor

/-
  What the reference's takeName and takeChar read is proved here, for every cursor.
-/
namespace Go.Proofs.YteckjkblngmenaaGreatDoor
open Go.RowKit
set_option linter.unusedVariables false
set_option maxRecDepth 100000

abbrev G48 : Int := 281474976710656
/-- The state of the reference's cursor. -/
def Cx (w : World) (c : Nat) (s : St) : Prop := Cur 111 w c s.1 s.2 ∧ Vl s ∧ s.1.length ≤ 1099511627776
theorem Cx.lt {w : World} {c : Nat} {s : St} (h : Cx w c s) : c < w.heap.size := Cur.lt h.1
theorem Cx.below {w w' : World} {c : Nat} {s : St} (h : Cx w c s) (hb : Below w.heap.size w w') : Cx w' c s := ⟨Cur.below h.1 hb, h.2⟩
theorem rt_vl {m : Int} {s : St} (h : Vl s) : Vl (rt m s).2 := (rt_sound m h).1
theorem xnum_s (c : Nat) (s : St) (most : Int) (w : World) (h : Cx w c s) :
    Calls Tryz.prog 66 #[.pointer (some ⟨c, 0, none⟩), .int .i64 most] w fun e w' =>
      e = .returned (.int .i64 (rn most s).1) ∧ Cx w' c (rn most s).2 ∧ w.grownBy w' (some c) :=
  (refnum_any c s.1 s.2 most w h.1 h.2.1.2).mono fun _ _ ⟨h1, h2, h3⟩ => ⟨h1, ⟨h2, rn_vl h.2.1, Nat.le_trans (rn_short most s) h.2.2⟩, h3⟩
theorem xtext_s (c : Nat) (s : St) (most : Int) (w : World) (h : Cx w c s) :
    Calls Tryz.prog 100 #[.pointer (some ⟨c, 0, none⟩), .int .i64 most] w fun e w' =>
      e = .returned (.string (rt most s).1) ∧ Cx w' c (rt most s).2 ∧ w.grownBy w' (some c) :=
  (reftext_any c s.1 s.2 most w h.1 h.2.1.2 (by have := h.2.2; omega)).mono fun _ _ ⟨h1, h2, h3⟩ => ⟨h1, ⟨h2, rt_vl h.2.1, Nat.le_trans (rt_short most s h.2.1.1).2 h.2.2⟩, h3⟩

/-- A cursor that is elsewhere while a block without bytes changes. -/
theorem Cx.fr {S : Nat → Prop} {w w' : World} {c : Nat} {s : St} (h : Cx w c s) (hf : Fr S w w') (hc : ¬ S c) (hb : ∀ k, S k → ∀ j x, w.cell? ⟨k, j, none⟩ ≠ some (.int .u8 x)) : Cx w' c s := by
  obtain ⟨⟨v, h1, a, cp, rfl, h3, h4, h5, h6, h7⟩, h2⟩ := h
  refine ⟨⟨_, hf.rows h1 hc, a, cp, rfl, h3, h4, h5, fun i hi => ?_, h7⟩, h2⟩
  obtain ⟨b, off, e1, e2⟩ := h6 i hi
  refine ⟨b, off, e1, ?_⟩
  rw [World.cell?_of_block (w := w) (hf.block b (World.block_lt_of_cell? _ _ e2) (fun hs => hb b hs _ _ e2))]
  exact e2
theorem Ob.no_byte {w : World} {b : Nat} {o : Opn} {v : Value} (h : Ob w b o v) (hv : ∃ va n vc, v = .slice va n vc) : ∀ k, k = b → ∀ j x, w.cell? ⟨k, j, none⟩ ≠ some (.int .u8 x) := by
  obtain ⟨va, n, vc, rfl⟩ := hv
  intro k hk j x hc
  subst hk
  rw [h.cell j] at hc
  have hj : j < 20 := (Array.getElem?_eq_some_iff.1 hc).1
  have hcases : j = 0 ∨ j = 1 ∨ j = 2 ∨ j = 3 ∨ j = 4 ∨ j = 5 ∨ j = 6 ∨ j = 7 ∨ j = 8 ∨ j = 9 ∨ j = 10 ∨ j = 11 ∨ j = 12 ∨ j = 13 ∨ j = 14 ∨ j = 15 ∨ j = 16 ∨ j = 17 ∨ j = 18 ∨ j = 19 := by omega
  rcases hcases with rfl | rfl | rfl | rfl | rfl | rfl | rfl | rfl | rfl | rfl | rfl | rfl | rfl | rfl | rfl | rfl | rfl | rfl | rfl | rfl <;> simp at hc
theorem Cx.op {w w' : World} {c b : Nat} {s : St} {o : Opn} {va : Option Addr} {n vc : Nat} (h : Cx w c s) (hf : Fr (fun k => k = b) w w') (hc : ¬ c = b) (ho : Ob w b o (.slice va n vc)) : Cx w' c s := h.fr hf hc (ho.no_byte ⟨_, _, _, rfl⟩)
theorem Cx.set {w : World} {c b i : Nat} {s : St} {cs : Array Value} {T : TypeId} (h : Cx w c s) (hr : w.heap[b]? = some (.cells cs T (0, 0))) (hbc : b ≠ c) (hi : ∃ z, cs[i]? = some z ∧ ∀ x, z ≠ .int .u8 x) (v : Value) : Cx (w.setCell ⟨b, i, none⟩ v) c s := ⟨Cur.set_row h.1 hr hbc hi v, h.2⟩

set_option maxHeartbeats 1000000 in
theorem xname_r (c : Nat) (s : St) (w : World) (h : Cx w c s) :
    Calls Tryz.prog 123 #[.pointer (some ⟨c, 0, none⟩)] w fun e w' =>
      e = .returned (idv (rn G48 s).1 (rn G48 (rn G48 s).2).1) ∧ Cx w' c (rn G48 (rn G48 s).2).2 ∧ Fr (fun k => k = c) w w' := by
  have hlt := h.lt
  have HA := hid (ba w (ido 72 0 0))
  have HC := hid (h.below HA.out)
  have R2 := hid (heap_alloc_new w (ido 72 0 0))
  obtain ⟨p1, hp1⟩ : ∃ p1, rn G48 s = p1 := ⟨_, rfl⟩
  have N1 := hid (fun W => xnum_s c s G48 W)
  rw [hp1] at N1 ⊢
  obtain ⟨p2, hp2⟩ : ∃ p2, rn G48 p1.2 = p2 := ⟨_, rfl⟩
  have N2 := hid (fun W => xnum_s c p1.2 G48 W)
  rw [hp2] at N2 ⊢
  clear h hp1 hp2
  go_enter Tryz.func123, Tryz.ntmps123
  go_wp2_with fail
  refine (N1.out _ HC.out).mono ?_
  rintro e w1 ⟨rfl, hc1, hg1⟩
  have H2 := hid (grown_row hg1 R2.out (by omega))
  have HC1 := hid hc1
  have HG1 := hid hg1
  clear hc1 hg1
  go_wp2_with fail
  refine (N2.out _ HC1.out).mono ?_
  rintro e w2 ⟨rfl, hc2, hg2⟩
  have H3 := hid (grown_row hg2 H2.out (by omega))
  have HC2 := hid hc2
  have HG2 := hid hg2
  have q2 : w2.cell? ⟨w.heap.size, 0, none⟩ = some (.int .i64 0) := cell_of_row w2 w.heap.size 0 _ _ _ H3.out
  have q3 : w2.cell? ⟨w.heap.size, 1, none⟩ = some (.int .i64 0) := cell_of_row w2 w.heap.size 1 _ _ _ H3.out
  have f2 := frozen_of_row w2 w.heap.size 0 _ _ H3.out
  have f3 := frozen_of_row w2 w.heap.size 1 _ _ H3.out
  clear hc2 hg2
  go_wp2
  have H4 := set_row (i := 0) H3.out (.int .i64 p1.1)
  have H5 := set_row (i := 1) H4 (.int .i64 p2.1)
  refine bodyPost_ret (results_cell_row rfl _ _ w.heap.size 72 #[.int .i64 p1.1, .int .i64 p2.1] (0, 0) _ rfl H5 Tryz.underlying72 rfl (by kernel_rfl)) rfl ?_
  refine ⟨rfl, ?_, ?_⟩
  · exact (HC2.out.set H3.out (by omega) ⟨_, rfl, fun x => by simp⟩ _).set H4 (by omega) ⟨_, rfl, fun x => by simp⟩ _
  · have h0 : Fr (fun k => k = c) w w2 := ((Fr.of_below HA.out).trans (Fr.grown HG1.out) (fun _ _ h => h)).trans (Fr.grown HG2.out) (fun _ _ h => h)
    exact (h0.set 0 _ (.inl (by omega))).set 1 _ (.inl (by omega))

set_option maxHeartbeats 2000000 in
theorem xchar_r (c : Nat) (s : St) (w : World) (h : Cx w c s) :
    Calls Tryz.prog 124 #[.pointer (some ⟨c, 0, none⟩)] w fun e w' =>
      e = .returned (chv (rn G48 s).1 (rn G48 (rn G48 s).2).1 (rn G48 (rn G48 (rn G48 s).2).2).1) ∧ Cx w' c (rn G48 (rn G48 (rn G48 s).2).2).2 ∧ Fr (fun k => k = c) w w' := by
  have hlt := h.lt
  have HA := hid (ba w (cho 0 0 0))
  have HC := hid (h.below HA.out)
  have R2 := hid (heap_alloc_new w (cho 0 0 0))
  have N1 := hid (fun W => xname_r c s W)
  obtain ⟨p1, hp1⟩ : ∃ p1, rn G48 s = p1 := ⟨_, rfl⟩
  rw [hp1] at N1 ⊢
  obtain ⟨p2, hp2⟩ : ∃ p2, rn G48 p1.2 = p2 := ⟨_, rfl⟩
  rw [hp2] at N1 ⊢
  have N2 := hid (fun W => xnum_s c p2.2 G48 W)
  obtain ⟨p3, hp3⟩ : ∃ p3, rn G48 p2.2 = p3 := ⟨_, rfl⟩
  rw [hp3] at N2 ⊢
  clear h hp1 hp2 hp3
  go_enter Tryz.func124, Tryz.ntmps124
  go_wp2_with fail
  refine (N1.out _ HC.out).mono ?_
  rintro e w1 ⟨rfl, hc1, hf1⟩
  have H2 := hid (hf1.rows R2.out (by omega))
  have HF1 := hid ((Fr.of_below HA.out).trans hf1 (fun _ _ h => h))
  have hs1 : w.heap.size < w1.heap.size := (Array.getElem?_eq_some_iff.1 H2.out).1
  have HA2 := hid (ba w1 (ido 72 p1.1 p2.1))
  have HC1 := hid (hc1.below HA2.out)
  have H4 := hid (((Fr.of_below HA2.out : Fr (fun k => k = c) _ _)).rows H2.out (by omega))
  have H5 := hid (heap_alloc_new w1 (ido 72 p1.1 p2.1))
  clear hc1 hf1
  go_wp2_with fail
  go_region_law (go_simp; go_at_call 66; refine (N2.out (w1.alloc (ido 72 p1.1 p2.1)).drew HC1.out).mono ?_; rintro e w2 ⟨rfl,hc2,hg2⟩; have HG2 := hid hg2; have HC2 := hid hc2; have H6 := hid (grown_row hg2 H4.out (by omega)); have H7 := hid (grown_row hg2 H5.out (by omega)); have t0 := cell_of_row w2 _ 0 _ _ _ H6.out; have t1 := cell_of_row w2 _ 1 _ _ _ H6.out; have t2 := cell_of_row w2 _ 2 _ _ _ H6.out; have g0 := frozen_of_row w2 _ 0 _ _ H6.out; have g1 := frozen_of_row w2 _ 1 _ _ H6.out; have g2 := frozen_of_row w2 _ 2 _ _ H6.out; have u0 := cell_of_row w2 _ 0 _ _ _ H7.out; have u1 := cell_of_row w2 _ 1 _ _ _ H7.out; simp at t0 t1 t2 u0 u1)
  all_goals
    go_wp2
    have K1 := set_row (i := 0) H6.out (.int .i64 p1.1)
    have K2 := set_row (i := 1) K1 (.int .i64 p2.1)
    have K3 := set_row (i := 2) K2 (.int .i64 p3.1)
    refine bodyPost_ret (results_cell_row rfl _ _ w.heap.size 74 #[.int .i64 p1.1, .int .i64 p2.1, .int .i64 p3.1] (0, 0) _ rfl K3 Tryz.underlying74 rfl (by kernel_rfl)) rfl ?_
    refine ⟨rfl, ?_, ?_⟩
    · exact ((HC2.out.set H6.out (by omega) ⟨_, rfl, fun x => by simp⟩ _).set K1 (by omega) ⟨_, rfl, fun x => by simp⟩ _).set K2 (by omega) ⟨_, rfl, fun x => by simp⟩ _
    · have h0 : Fr (fun k => k = c) w w2 := (HF1.out.trans (Fr.of_below ((HA2.out).drew) : Fr (fun k => k = c) _ _) (fun _ _ h => h)).trans (Fr.grown HG2.out) (fun _ _ h => h)
      exact ((h0.set 0 _ (.inl (by omega))).set 1 _ (.inl (by omega))).set 2 _ (.inl (by omega))

end Go.Proofs.YteckjkblngmenaaGreatDoor

/-
  Lists of ops as bytes: plain mathematics.
-/
namespace Go.Proofs.YteckjkblngmenaaGreatDoor
set_option linter.unusedVariables false
set_option maxRecDepth 100000

/-- An op's bytes as a text; a list's. -/
def encT (o : Opn) : List Int := M.encText (M.str (encO o))
def encA (l : List Opn) : List Int := M.enc l.length ++ l.flatMap encT
/-- So many ops, read; 'm s' bounds a text's length. -/
def rdA (m : St → Int) : Nat → St → Option (List Opn × St)
  | 0, s => some ([], s)
  | j + 1, s => match rdA m j s with
    | none => none
    | some (l, q) => if (decO Bnd.own (tx (rt (m q) q).1)).2 then some (l ++ [(decO Bnd.own (tx (rt (m q) q).1)).1], (rt (m q) q).2) else none
def decA (m : St → Int) (b : List Int) : List Opn × Bool :=
  match rdA m (rn 1048576 (b, false)).1.toNat (rn 1048576 (b, false)).2 with
  | none => ([], false)
  | some (l, q) => if !q.2 && q.1.isEmpty then (l, true) else ([], false)

theorem rdA_step (m : St → Int) (j : Nat) (s q : St) (l : List Opn) (h : rdA m j s = some (l, q)) :
    rdA m (j + 1) s = if (decO Bnd.own (tx (rt (m q) q).1)).2 then some (l ++ [(decO Bnd.own (tx (rt (m q) q).1)).1], (rt (m q) q).2) else none := by
  show (match rdA m j s with | none => none | some (l, q) => _) = _
  rw [h]
theorem rdA_none (m : St → Int) (j k : Nat) (s : St) (h : rdA m j s = none) (hk : j ≤ k) : rdA m k s = none := by
  induction k with
  | zero => obtain rfl : j = 0 := by omega
            exact h
  | succ k ih =>
    by_cases e : j = k + 1
    · rw [← e]; exact h
    · show (match rdA m k s with | none => none | some (l, q) => _) = _
      rw [ih (by omega)]

theorem takeL_len {n : Int} {xs : List Int} (h : (xs.length : Int) < n) (lost : Bool) : M.takeV n xs = [] ∧ M.takeS n xs = [] ∧ M.takeL n xs lost = true := by
  have : M.takeOk n xs = false := by simp [M.takeOk]; omega
  simp [M.takeV, M.takeS, M.takeL, this]
/-- A text's length may be bounded by what is left, or by a great number. -/
theorem rt_left {s : St} (hv : K.Byt s.1) (hl : s.1.length ≤ 1099511627776) : rt (s.1.length : Nat) s = rt G48 s := by
  obtain ⟨xs, l⟩ := s
  dsimp only at hv hl ⊢
  unfold rt M.textV M.textS M.textL
  dsimp only
  by_cases hf : M.fo xs = true
  · by_cases h1 : M.fn xs ≤ (xs.length : Nat)
    · have a1 : M.numOk (xs.length : Nat) xs = true := by simp [M.numOk, hf, h1]
      have a2 : M.numOk G48 xs = true := by simp [M.numOk, hf]; show M.fn xs ≤ 281474976710656; omega
      simp only [M.numV, M.numS, M.numL, a1, a2]
    · have a1 : M.numOk (xs.length : Nat) xs = false := by simp [M.numOk, hf]; omega
      by_cases h2 : M.fn xs ≤ G48
      · have a2 : M.numOk G48 xs = true := by simp [M.numOk, hf]; exact h2
        have hd : ((xs.drop (M.fc xs)).length : Int) < M.fn xs := by rw [List.length_drop]; omega
        obtain ⟨e1, e2, e3⟩ := takeL_len hd l
        simp only [M.numV, M.numS, M.numL, a1, a2, if_true, if_false, e1, e2, e3, Bool.false_eq_true]
        simp [M.takeV, M.takeS, M.takeL, M.takeOk]
      · have a2 : M.numOk G48 xs = false := by simp [M.numOk, hf]; omega
        simp only [M.numV, M.numS, M.numL, a1, a2]
  · have hf' : M.fo xs = false := by simpa using hf
    have a1 : M.numOk (xs.length : Nat) xs = false := by simp [M.numOk, hf']
    have a2 : M.numOk G48 xs = false := by simp [M.numOk, hf']
    simp only [M.numV, M.numS, M.numL, a1, a2]

def mOwn (q : St) : Int := (q.1.length : Nat)
def mRef (q : St) : Int := G48
theorem rdA_ok (s : St) (hv : Vl s) (hl : s.1.length ≤ 1099511627776) : ∀ j l q, rdA mRef j s = some (l, q) → Vl q ∧ q.1.length ≤ 1099511627776 := by
  intro j
  induction j with
  | zero => intro l q h; simp [rdA] at h; obtain ⟨_, rfl⟩ := h; exact ⟨hv, hl⟩
  | succ j ih =>
    intro l q h
    cases h0 : rdA mRef j s with
    | none => rw [rdA_none mRef j (j + 1) s h0 (by omega)] at h; cases h
    | some p =>
      obtain ⟨l0, q0⟩ := p
      obtain ⟨i1, i2⟩ := ih l0 q0 h0
      rw [rdA_step mRef j s q0 l0 h0] at h
      split at h
      · simp at h
        obtain ⟨_, rfl⟩ := h
        exact ⟨rt_vl i1, Nat.le_trans (rt_short _ _ i1.1).2 i2⟩
      · cases h
theorem rdA_same (s : St) (hv : Vl s) (hl : s.1.length ≤ 1099511627776) : ∀ j, rdA mOwn j s = rdA mRef j s := by
  intro j
  induction j with
  | zero => rfl
  | succ j ih =>
    cases h0 : rdA mRef j s with
    | none => rw [rdA_none mRef j (j + 1) s h0 (by omega), rdA_none mOwn j (j + 1) s (by rw [ih, h0]) (by omega)]
    | some p =>
      obtain ⟨l0, q0⟩ := p
      obtain ⟨i1, i2⟩ := rdA_ok s hv hl j l0 q0 h0
      rw [rdA_step mRef j s q0 l0 h0, rdA_step mOwn j s q0 l0 (by rw [ih, h0])]
      have e : rt (mOwn q0) q0 = rt (mRef q0) q0 := rt_left i1.1 i2
      rw [e]
theorem rt_encT {o : Opn} (h : rightO o = true) (r : List Int) : rt G48 (encT o ++ r, false) = (M.str (encO o), (r, false)) := by
  have hb := encO_byt h
  have hs : (M.str (encO o)).size = (encO o).length := by
    have := congrArg List.length (tx_str hb)
    rw [tx_length] at this
    exact this
  have := encO_len h
  exact rt_full (by rw [hs]; show ((encO o).length : Int) ≤ 281474976710656; omega) (by rw [hs]; omega) r
theorem rdA_full (l : List Opn) (h : ∀ o ∈ l, rightO o = true) (r : List Int) : ∀ k, k ≤ l.length → rdA mRef k (l.flatMap encT ++ r, false) = some (l.take k, ((l.drop k).flatMap encT ++ r, false)) := by
  intro k
  induction k with
  | zero => intro _; simp [rdA]
  | succ k ih =>
    intro hk
    have hlt : k < l.length := by omega
    have h0 := ih (by omega)
    rw [rdA_step mRef k _ _ _ h0]
    have hr := h _ (List.getElem_mem hlt)
    have hd : (l.drop k).flatMap encT ++ r = encT (l[k]) ++ ((l.drop (k + 1)).flatMap encT ++ r) := by
      rw [List.drop_eq_getElem_cons hlt, List.flatMap_cons, List.append_assoc]
    rw [hd]
    have ht : rt (mRef (encT l[k] ++ ((l.drop (k + 1)).flatMap encT ++ r), false)) (encT l[k] ++ ((l.drop (k + 1)).flatMap encT ++ r), false) = (M.str (encO l[k]), ((l.drop (k + 1)).flatMap encT ++ r, false)) := rt_encT hr _
    rw [ht]
    dsimp only
    rw [tx_str (encO_byt hr), decO_full own_ok hr]
    simp only [if_true]
    rw [List.take_succ_eq_append_getElem hlt]
theorem rdA_sound (s : St) (hv : Vl s) (hl : s.1.length ≤ 1099511627776) : ∀ j l q, rdA mRef j s = some (l, q) → q.2 = false → s.2 = false ∧ s.1 = l.flatMap encT ++ q.1 ∧ l.length = j ∧ ∀ o ∈ l, rightO o = true := by
  intro j
  induction j with
  | zero => intro l q h hq; simp [rdA] at h; obtain ⟨rfl, rfl⟩ := h; exact ⟨hq, by simp, rfl, fun o ho => by cases ho⟩
  | succ j ih =>
    intro l q h hq
    cases h0 : rdA mRef j s with
    | none => rw [rdA_none mRef j (j + 1) s h0 (by omega)] at h; cases h
    | some p =>
      obtain ⟨l0, q0⟩ := p
      have hok := rdA_ok s hv hl j l0 q0 h0
      rw [rdA_step mRef j s q0 l0 h0] at h
      split at h
      · rename_i hd
        simp at h
        obtain ⟨rfl, rfl⟩ := h
        have hs := rt_sound (mRef q0) hok.1
        obtain ⟨e1, e2⟩ := hs.2 hq
        obtain ⟨i1, i2, i3, i4⟩ := ih l0 q0 h0 e1
        have htb : K.Byt (tx (rt (mRef q0) q0).1) := fun x hx => M.ofStr_byte _ x hx
        obtain ⟨d1, d2⟩ := decO_sound Bnd.own htb hd
        refine ⟨i1, ?_, by simp [i3], fun o ho => ?_⟩
        · have he : encT (decO Bnd.own (tx (rt (mRef q0) q0).1)).1 = M.encText (rt (mRef q0) q0).1 := by unfold encT; rw [d2, str_tx]
          generalize (decO Bnd.own (tx (rt (mRef q0) q0).1)).1 = X at he
          rw [List.flatMap_append, List.append_assoc, show [X].flatMap encT = encT X from by simp, he, ← e2]
          exact i2
        · rcases List.mem_append.1 ho with ho | ho
          · exact i4 o ho
          · rw [List.mem_singleton.1 ho]; exact d1
      · cases h
theorem encA_read (l : List Opn) (hl : l.length ≤ 1048576) (r : List Int) : rn 1048576 (encA l ++ r, false) = ((l.length : Int), (l.flatMap encT ++ r, false)) := by
  unfold encA
  rw [List.append_assoc]
  exact rn_full (by omega) (by omega) (by omega) _
theorem decA_full (l : List Opn) (h : ∀ o ∈ l, rightO o = true) (hl : l.length ≤ 1048576) : decA mRef (encA l) = (l, true) := by
  have h1 := encA_read l hl []
  rw [List.append_nil] at h1
  unfold decA
  rw [h1]
  dsimp only
  rw [Int.toNat_natCast, rdA_full l h [] l.length (Nat.le_refl _)]
  simp
theorem decA_sound {b : List Int} (hb : K.Byt b) (hn : b.length ≤ 1099511627776) (h : (decA mRef b).2 = true) : encA (decA mRef b).1 = b ∧ (∀ o ∈ (decA mRef b).1, rightO o = true) ∧ (decA mRef b).1.length ≤ 1048576 := by
  have hv : Vl (b, false) := ⟨hb, fun e => by cases e⟩
  have hs := rn_sound 1048576 hv
  have hr := rn_val (m := 1048576) (s := (b, false)) hb
  unfold decA at h ⊢
  cases h0 : rdA mRef (rn 1048576 (b, false)).1.toNat (rn 1048576 (b, false)).2 with
  | none => rw [h0] at h; cases h
  | some p =>
    obtain ⟨l, q⟩ := p
    rw [h0] at h
    dsimp only at h ⊢
    split at h
    · rename_i hq
      rw [if_pos hq]
      simp at hq
      obtain ⟨s1, s2, s3, s4⟩ := rdA_sound _ hs.1 (Nat.le_trans (rn_short 1048576 (b, false)) hn) _ _ _ h0 hq.1
      obtain ⟨_, e2⟩ := hs.2 s1
      dsimp only
      refine ⟨?_, s4, by have := hr.2.2 (by decide); omega⟩
      unfold encA
      have hN : ((l.length : Nat) : Int) = (rn 1048576 (b, false)).1 := by rw [s3]; exact Int.toNat_of_nonneg hr.1
      have e3 : b = M.enc (rn 1048576 (b, false)).1 ++ (rn 1048576 (b, false)).2.1 := e2
      rw [s2, hq.2, List.append_nil] at e3
      rw [hN]
      exact e3.symm
    · cases h
theorem decA_same {b : List Int} (hb : K.Byt b) (hn : b.length ≤ 1099511627776) : decA mOwn b = decA mRef b := by
  have hv : Vl (b, false) := ⟨hb, fun e => by cases e⟩
  unfold decA
  rw [rdA_same _ (rn_vl hv) (Nat.le_trans (rn_short 1048576 (b, false)) hn)]
end Go.Proofs.YteckjkblngmenaaGreatDoor
