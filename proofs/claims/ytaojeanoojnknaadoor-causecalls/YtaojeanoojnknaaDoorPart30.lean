/-
  Parts of the proof, one behind the other; what each proves stands at its head.
-/
import Derived.Test.YtaojeanoojnknaaDoorPart27
import Derived.Test.YtaojeanoojnknaaDoorPart25
import Derived.Deep.MidRow
import Derived.Test.YtaojeanoojnknaaDoorPart21
import Derived.Test.YtaojeanoojnknaaDoorPart22
import Derived.Test.YtaojeanoojnknaaDoorPart24
import Derived.Test.YtaojeanoojnknaaDoorPart12

/-
  What oplog's clones returns is proved here: new ops, the same ones, whose cuts are new memory, too.
-/
namespace Go.Proofs.YtaojeanoojnknaaDoor
open Go.RowKit
set_option linter.unusedVariables false
set_option maxRecDepth 100000

theorem opc_len (p : Opn × Value) : (opc p).length = 20 := rfl
end Go.Proofs.YtaojeanoojnknaaDoor

/-
  The first so many of a row of ops in memory, the others; a row of a call's own ('Rx') to which a row of ops is appended.
-/
namespace Go.Proofs.YtaojeanoojnknaaDoor
open Go.RowKit
set_option linter.unusedVariables false
set_option maxRecDepth 100000

/-- The first so many of a list in memory; the others. -/
theorem flat_drop (l : List (Opn × Value)) (k : Nat) (hk : k ≤ l.length) : (l.drop k).flatMap opc = (l.flatMap opc).drop (k * 20) := by
  have e : l.flatMap opc = (l.take k).flatMap opc ++ (l.drop k).flatMap opc := by rw [← List.flatMap_append, List.take_append_drop]
  have hl : ((l.take k).flatMap opc).length = k * 20 := by rw [flat_length opc 20 opc_len, List.length_take, Nat.min_eq_left hk]
  rw [e, ← hl, List.drop_left]
theorem flat_take (l : List (Opn × Value)) (k : Nat) (hk : k ≤ l.length) : (l.take k).flatMap opc = (l.flatMap opc).take (k * 20) := by
  have e : l.flatMap opc = (l.take k).flatMap opc ++ (l.drop k).flatMap opc := by rw [← List.flatMap_append, List.take_append_drop]
  have hl : ((l.take k).flatMap opc).length = k * 20 := by rw [flat_length opc 20 opc_len, List.length_take, Nat.min_eq_left hk]
  rw [e, ← hl, List.take_left]
theorem Os.front {w : World} {a : Option Addr} {n c : Nat} {l : List (Opn × Value)} (h : Os w (.slice a n c) l) (k : Nat) (hk : k ≤ n) : Os w (.slice a k c) (l.take k) := by
  obtain ⟨⟨h0, a', c', e1, e2, e3, e4, e5⟩, h6⟩ := h
  simp only [Value.slice.injEq] at e1
  obtain ⟨rfl, rfl, rfl⟩ := e1
  have hl : (l.take k).length = k := by rw [List.length_take]; omega
  refine ⟨⟨flat_length opc 20 opc_len _, a, c, by rw [hl], by omega, e3, e4, fun j u hu => ?_⟩, fun p hp => h6 p (List.mem_of_mem_take hp)⟩
  rw [flat_take l k hk] at hu
  exact e5 j u (by
    have hj := (List.getElem?_eq_some_iff.1 hu).1
    rw [List.length_take] at hj
    rw [List.getElem?_take_of_lt (by omega)] at hu
    exact hu)
theorem Os.back {w : World} {b off n c : Nat} {l : List (Opn × Value)} (h : Os w (.slice (some ⟨b, off, none⟩) n c) l) (k : Nat) (hk : k ≤ n) : Os w (.slice (some ⟨b, off + k * 20, none⟩) (n - k) (c - k)) (l.drop k) := by
  obtain ⟨⟨h0, a', c', e1, e2, e3, e4, e5⟩, h6⟩ := h
  simp only [Value.slice.injEq] at e1
  obtain ⟨rfl, rfl, rfl⟩ := e1
  refine ⟨⟨flat_length opc 20 opc_len _, some ⟨b, off + k * 20, none⟩, c - k, by rw [List.length_drop], by rw [List.length_drop]; omega, by omega, (fun e => by cases e), fun j u hu => ?_⟩, fun p hp => h6 p (List.mem_of_mem_drop hp)⟩
  rw [flat_drop l k hk, List.getElem?_drop] at hu
  obtain ⟨b', off', e7, e8⟩ := e5 _ u hu
  simp only [Option.some.injEq, Addr.mk.injEq, and_true] at e7
  obtain ⟨rfl, rfl⟩ := e7
  exact ⟨b, off + k * 20, rfl, by rw [Nat.add_assoc]; exact e8⟩
theorem Os.void {w : World} {a : Option Addr} {c : Nat} (hc : c ≤ maxLen) (ha : a = none → c = 0) : Os w (.slice a 0 c) [] :=
  ⟨⟨rfl, a, c, rfl, Nat.zero_le _, hc, ha, fun j u hu => by simp at hu⟩, fun p hp => by cases hp⟩
theorem run_slt {o : Oper} {a : Act} {x hi : Operand} {A : Option Addr} {n c t : Nat} {W : World} (ho : o.op = .slice 28 x none (some hi) none) (hx : a.eval x = .slice A n c) (hh : a.eval hi = .int .i64 (t : Nat)) (h2 : t ≤ c) :
    (execOp a.eval o).run Tryd.prog W = .ok (.value (.slice A t c)) W := by
  unfold execOp
  simp only [ho, hx, Option.map_some, Option.map_none, hh]
  have e6 : (t : Int) ≤ (c : Int) := by omega
  simp [go_sem, e6]
theorem run_sld {o : Oper} {a : Act} {x lo : Operand} {b off n c f : Nat} {W : World} (ho : o.op = .slice 28 x (some lo) none none) (hx : a.eval x = .slice (some ⟨b, off, none⟩) n c) (hl : a.eval lo = .int .i64 (f : Nat)) (h1 : f ≤ n) (h2 : f < c) (h3 : n ≤ c) :
    (execOp a.eval o).run Tryd.prog W = .ok (.value (.slice (some ⟨b, off + f * 20, none⟩) (n - f) (c - f))) W := by
  unfold execOp
  simp only [ho, hx, Option.map_some, Option.map_none, hl]
  have e5 : (f : Int) ≤ (n : Int) := by omega
  have e7 : ¬ c = f := by omega
  simp [go_sem, e5, e7]
theorem run_sld0 {o : Oper} {a : Act} {x lo : Operand} {A : Option Addr} {n : Nat} {W : World} (ho : o.op = .slice 28 x (some lo) none none) (hx : a.eval x = .slice A n n) (hl : a.eval lo = .int .i64 (n : Nat)) :
    (execOp a.eval o).run Tryd.prog W = .ok (.value (.slice A 0 0)) W := by
  unfold execOp
  simp only [ho, hx, Option.map_some, Option.map_none, hl]
  simp [go_sem]

/-- A row of ops of the call's own; the cuts of each op lie elsewhere. -/
def Rx (B : Nat) (w : World) (v : Value) (l : List (Opn × Value)) : Prop :=
  w.ownsRow B 43 20 v l.length (l.flatMap opc) ∧ ∀ p ∈ l, Cs w p.2 p.1.cuts ∧ Aw v p
theorem Rx.made {B : Nat} {w : World} (hB : B ≤ w.heap.size) : Rx B (w.alloc (.cells #[] 43)) (.slice (some ⟨w.heap.size, 0, none⟩) 0 0) [] :=
  ⟨World.ownsRow_made w #[] 0 hB (Nat.zero_le _) rfl, fun p hp => by cases hp⟩
theorem Rx.form {B : Nat} {w : World} {v : Value} {l : List (Opn × Value)} (h : Rx B w v l) : ∃ a c, v = .slice a l.length c := by
  obtain ⟨a, c, e, _⟩ := (Sl.of_own h.1).form
  exact ⟨a, c, e⟩
theorem Rx.os {B : Nat} {w : World} {v : Value} {l : List (Opn × Value)} (h : Rx B w v l) : Os w v l := ⟨Sl.of_own h.1, fun p hp => (h.2 p hp).1⟩
theorem Rx.below {B : Nat} {w w' : World} {v : Value} {l : List (Opn × Value)} (h : Rx B w v l) (hb : Below w.heap.size w w') : Rx B w' v l :=
  ⟨own_fr h.1 (Fr.of_below hb : Fr (fun _ => False) _ _) (fun _ _ h => h), fun p hp => ⟨(h.2 p hp).1.below hb, (h.2 p hp).2⟩⟩
/-- What was there ahead of the row lies elsewhere. -/
theorem Rx.aw {B : Nat} {w w0 : World} {v u : Value} {l l2 : List (Opn × Value)} (h : Rx B w v l) (ho : Os w0 u l2) (hB : w0.heap.size ≤ B) : ∀ p ∈ l2, Aw v p := by
  intro p hp
  by_cases he : p.1.cuts = []
  · exact .inl he
  · refine .inr (fun k hk e => ?_)
    have h1 := (ho.2 p hp).blk he e
    have h2 := (h.1.lt k hk).1
    omega

theorem wpList_append_ops {w : World} {ops : Array Oper} {rest : List Oper} {o : Oper} {a : Act} {Q : Exit → Act → World → Prop} (hgd : o.guard = none) (s x : Operand)
    (ho : o.op = .call { callee := .builtin .append, args := #[s, x], argTypes := #[28, 28] })
    (B : Nat) (v : Value) (l l2 : List (Opn × Value)) (hs : a.eval s = v) (hR : Rx B w v l) (u : Value) (hx : a.eval x = u) (hu : Os w u l2) (hp : ∀ p ∈ l2, Aw v p) (hlen : l.length + l2.length ≤ 1048576) (hB : B ≤ w.heap.size)
    (h : ∀ v' w', Rx B w' v' (l ++ l2) → Fr (fun k => v.ownBlock = some k) w w' → (v'.ownBlock = v.ownBlock ∨ v'.ownBlock = some w.heap.size) → wpList Tryd.prog ops Q rest (a.put o.dst v') w') :
    wpList Tryd.prog ops Q (o :: rest) a w := by
  refine wpList_append_sl 28 43 20 192 _ Tryd.underlying28 info_op rfl (by decide) hgd s x ho B v l.length (l.flatMap opc) hs hR.1 u l2.length (l2.flatMap opc) hx hu.1
    (fun z hz => by obtain ⟨p, hp, hz⟩ := List.mem_flatMap.1 hz; exact (opc_one (hu.2 p hp)).1 z hz) (by omega) (by unfold maxLen; omega) hB ?_
  intro v' w' h1 h2 h3
  have hf : Fr (fun k => v.ownBlock = some k) w w' := Fr.of_grown h2 (fun k e => e)
  refine h v' w' ⟨?_, ?_⟩ hf h3
  · rw [List.length_append, List.flatMap_append]; exact h1
  · intro q hq
    have hqq : Cs w q.2 q.1.cuts ∧ Aw v q := by
      rcases List.mem_append.1 hq with hq | hq
      · exact hR.2 q hq
      · exact ⟨hu.2 q hq, hp q hq⟩
    exact ⟨hqq.2.kept hqq.1 hf, hqq.2.moved hqq.1 h3⟩

end Go.Proofs.YtaojeanoojnknaaDoor

/-
  What the reference's CopyCuts, CopyOp and CopyOps return is proved here.
-/
namespace Go.Proofs.YtaojeanoojnknaaDoor
open Go.RowKit
set_option linter.unusedVariables false
set_option maxRecDepth 100000

set_option maxHeartbeats 2000000 in
theorem copycuts_any (v : Value) (l : List Ct) (w : World) (hC : Cs w v l) (hl : l.length ≤ 100000) :
    Calls Tryd.prog 37 #[v] w fun e w' => ∃ u, e = .returned u ∧ w'.ownsRow w.heap.size 86 4 u l.length (l.flatMap cutc) ∧ Below w.heap.size w w' := by
  obtain ⟨a, c, rfl, _, _⟩ := hC.form
  have HA := hid (ba w (.cells #[] 86))
  have HC := hid (hC.below HA.out)
  have HO : Hid ((w.alloc (.cells #[] 86)).ownsRow w.heap.size 86 4 (.slice (some ⟨w.heap.size, 0, none⟩) 0 0) 0 []) := hid (World.ownsRow_made w #[] 0 (Nat.le_refl _) (Nat.zero_le _) rfl)
  have H1C : Hid (∀ x ∈ l.flatMap cutc, x.oneCell' = true) := hid (fun x hx => by
    obtain ⟨c, _, hx⟩ := List.mem_flatMap.1 hx
    simp at hx
    rcases hx with rfl | rfl | rfl | rfl <;> rfl)
  obtain ⟨n, hn⟩ : ∃ n, l.length = n := ⟨_, rfl⟩
  have hb : (0 + n) * 32 ≤ 140737488355328 := by omega
  have hm : 0 + n ≤ maxLen := by unfold maxLen; omega
  have hSl : Hid (Sl 4 (w.alloc (.cells #[] 86)) (.slice a n c) n (l.flatMap cutc)) := hid (by have := HC.out; unfold Cs at this; rwa [hn] at this)
  have HS := hid HA.out.size
  rw [hn]
  clear hC hl hn HC
  go_enter Tryd.func37, Tryd.ntmps37
  go_wp2_with (first | (at_builtin; refine wpList_append_sl 41 86 4 32 _ Tryd.underlying41 info_cut rfl (Nat.succ_pos 3) rfl _ _ rfl w.heap.size (.slice (some ⟨w.heap.size,0,none⟩) 0 0) _ [] rfl HO.out _ n (l.flatMap cutc) rfl hSl.out H1C.out hb hm HS.out ?_; intro v5 w5 hown5 hg5 hv5; rw [Nat.zero_add,List.nil_append] at hown5; obtain ⟨a5,c5,rfl⟩ := own_shape hown5; have HO5 := hid hown5; have HG5 := hid hg5; clear hown5 hg5 hv5) | fail)
  have B5 : Hid (Below w.heap.size w w5) := hid (HA.out.trans ((Fr.of_grown (S := fun k => w.heap.size ≤ k) HG5.out (fun k e => by simp [Value.ownBlock] at e; omega)).below (fun k hk e => by omega) HS.out))
  go_ret
  exact ⟨_, rfl, HO5.out, B5.out⟩

set_option maxHeartbeats 2000000 in
theorem copyop_any (A : Value) (o : Opn) (v : Value) (hA : A = opv o v) (w : World) (hC : Cs w v o.cuts) (hl : o.cuts.length ≤ 100000) :
    Calls Tryd.prog 11 #[A] w fun e w' => ∃ u, e = .returned (opv o u) ∧ Cs w' u o.cuts ∧ Below w.heap.size w w' ∧ ∀ k, u.ownBlock = some k → w.heap.size ≤ k := by
  subst hA
  obtain ⟨va, vc, hv, _⟩ := hC.form
  have HV : Hid (∃ va n vc, v = .slice va n vc) := hid ⟨_, _, _, hv⟩
  have HA := hid (ba w (opo o v))
  have HO := hid (Ob.new w o v)
  have HC := hid (hC.below HA.out)
  clear hC hv
  go_enter Tryd.func11, Tryd.ntmps11
  have hrb : (w.alloc (opo o v)).heap.size = w.heap.size + 1 := by simp
  have HRB := hid hrb
  clear hrb
  go_wp2_with (first
    | (have hh2 := HR2.out; refine wpList_al_op rfl rfl ?_; intro w3 ho3 hb3 hlt3; clear hh2; have HL3 := hid ho3; have HR3 := hid (HR2.out.below hb3); have HO3 := hid (HO2.out.below hb3); have HC3 := hid (HC2.out.below hb3); have B3 := hid (bt B2.out hb3); have LT3 := hid hlt3; clear ho3 hb3 hlt3)
    | (refine wpList_al_op rfl rfl ?_; intro w2 ho2 hb2 hlt2; rw [HRB.out] at ho2 hlt2; have HR2 := hid ho2; have HO2 := hid (HO.out.below hb2); have HC2 := hid (HC.out.below hb2); have B2 := hid (bt HA.out hb2); have LT2 := hid hlt2; clear ho2 hb2 hlt2)
    | (refine wpList_load_op rfl _ rfl w.heap.size rfl o v HO2.out ?_)
    | (refine wpList_st_op rfl rfl rfl rfl HV.out HL3.out ?_; intro w4 ho4 hf4; have HL4 := hid ho4; have HF4 := hid hf4; have HO4 := hid (HO3.out.fr hf4 (fun e => by have h2 := LT2.out; omega)); clear ho4 hf4)
    | (refine wpList_ld_cuts rfl rfl rfl HO4.out ?_)
    | fail)
  have B4 := hid (below_fr B3.out HF4.out (by have h2 := LT2.out; omega))
  have hq : w.heap.size + 1 < w2.heap.size := LT2.out
  have HR4 := hid (HR3.out.fr HF4.out (fun e => by omega))
  obtain ⟨ua, uc, rfl, _⟩ := HC3.out.form
  have HC4 : Hid (Cs w4 (.slice ua o.cuts.length uc) o.cuts) := hid (by
    by_cases h0 : o.cuts = []
    · have := HC3.out
      rw [h0] at this ⊢
      exact this.none
    · refine Sl.kept HC3.out (fun k hk hlt => HF4.out.block k hlt (fun e => ?_))
      have h1 := HC2.out.blk h0 hk
      omega)
  obtain ⟨q, hqq⟩ : ∃ q, w2.heap.size = q := ⟨_, rfl⟩
  rw [hqq] at HL4 hq ⊢
  clear hqq HF4 HL3 HR3 HC3 HC2 HO2 HR2 HO3 HO HC
  refine (copycuts_any _ o.cuts w4 HC4.out hl).mono ?_
  rintro e w5 ⟨u5, rfl, ho5, b5⟩
  have HU5 := hid ho5
  have HL5 := hid (HL4.out.below b5)
  have HR5 := hid (HR4.out.below b5)
  have B5 := hid (bt B4.out b5)
  have H45 := hid B4.out.size
  obtain ⟨a5, c5, rfl⟩ := own_shape ho5
  clear ho5 b5 HL4 HR4 HO4
  go_wp2_with (first
    | (refine wpList_st_cuts o.cuts rfl rfl rfl rfl HL5.out ?_; intro w6 ho6 hf6; have HL6 : Hid (Ob w6 q o (.slice a5 o.cuts.length c5)) := hid ho6; have HR6 := hid (HR5.out.fr hf6 (fun e => by omega)); have HF6 := hid hf6; clear ho6 hf6)
    | (refine wpList_load_op rfl _ rfl q rfl o (.slice a5 o.cuts.length c5) HL6.out ?_)
    | (refine wpList_st_op rfl rfl rfl rfl ⟨_, _, _, rfl⟩ HR6.out ?_; intro w7 ho7 hf7; have HR7 := hid ho7; have HF7 := hid hf7; clear ho7 hf7)
    | fail)
  have B7 := hid (below_fr (below_fr B5.out HF6.out (by omega)) HF7.out (by omega))
  refine bodyPost_ret (results_cell_row rfl _ _ (w.heap.size + 1) 43 (opl o (.slice a5 o.cuts.length c5)) (0, 0) _ rfl HR7.out Tryd.underlying43 rfl (by kernel_rfl)) rfl ?_
  have hu6 := own_fr HU5.out HF6.out (fun k hk e => own_far HU5.out HL5.out (by decide) (e ▸ hk))
  have hu7 := own_fr hu6 HF7.out (fun k hk e => own_far hu6 HR6.out (by decide) (e ▸ hk))
  exact ⟨_, rfl, Sl.of_own hu7, B7.out, fun k hk => Nat.le_trans H45.out (HU5.out.lt k hk).1⟩

end Go.Proofs.YtaojeanoojnknaaDoor

/-
  A list of calls in memory (a number and an op): 'Kq w v qs'; what great answers for it.
-/
namespace Go.Proofs.YtaojeanoojnknaaDoor
open Go.RowKit
set_option linter.unusedVariables false
set_option maxRecDepth 100000

abbrev Koe := Int × (Opn × Value)
abbrev koc (q : Koe) : List Value := .int .i64 q.1 :: opc q.2
def Kq (w : World) (v : Value) (qs : List Koe) : Prop := Sl 21 w v qs.length (qs.flatMap koc) ∧ ∀ q ∈ qs, Cs w q.2.2 q.2.1.cuts
theorem Kq.below {w w' : World} {v : Value} {qs : List Koe} (h : Kq w v qs) (hb : Below w.heap.size w w') : Kq w' v qs := ⟨h.1.below hb, fun q hq => (h.2 q hq).below hb⟩
theorem Kq.nil (w : World) : Kq w (.slice none 0 0) [] := ⟨Sl.nil 21 w, fun q hq => by cases hq⟩
theorem Kq.inv {w : World} {v : Value} {qs : List Koe} (h : Kq w v qs) (hn : 0 < qs.length) :
    ∃ b off c, v = .slice (some ⟨b, off, none⟩) qs.length c ∧ b < w.heap.size ∧ ∀ i (hi : i < qs.length), w.cell? ⟨b, off + i * 21, none⟩ = some (.int .i64 (qs[i]).1) ∧ ∀ j, j < 20 → w.cell? ⟨b, off + i * 21 + 1 + j, none⟩ = (opl (qs[i]).2.1 (qs[i]).2.2)[j]? := by
  obtain ⟨b, off, c, h1, h2, h3, h4, h5⟩ := Sl.inv h.1 hn (by decide)
  refine ⟨b, off, c, h1, h4, fun i hi => ⟨?_, fun j hj => ?_⟩⟩
  · have k := flat_at koc 21 (fun _ => rfl) qs i 0 hi (by decide)
    exact h5 (i * 21) _ (by rw [Nat.add_zero] at k; rw [k]; rfl)
  · have k := flat_at koc 21 (fun _ => rfl) qs i (1 + j) hi (by omega)
    have hs : j < (opl (qs[i]).2.1 (qs[i]).2.2).size := hj
    have e : (opl (qs[i]).2.1 (qs[i]).2.2)[j]? = some ((opl (qs[i]).2.1 (qs[i]).2.2)[j]) := Array.getElem?_eq_getElem hs
    rw [e, Nat.add_assoc, Nat.add_assoc]
    refine h5 _ _ ?_
    rw [k, ← e, Nat.add_comm 1 j]
    simp [koc, opc]
/-- What great lets through. -/
def GK (qs : List Koe) (e : Ending) : Prop := ∃ g : Bool, e = .returned (.bool g) ∧ (g = false → qs.length ≤ 150 ∧ ∀ q ∈ qs, q.2.1.fine ∧ q.2.1.cuts.length ≤ 40)

set_option maxHeartbeats 2000000 in
theorem kgreat_any (A : Value) (qs : List Koe) (w : World) (h : Kq w A qs) :
    Calls Tryd.prog 8 #[A] w fun e w' => GK qs e ∧ Below w.heap.size w w' := by
  obtain ⟨a, c, rfl, hc0, hc1⟩ := Sl.form h.1
  obtain ⟨n, hn⟩ : ∃ n, qs.length = n := ⟨_, rfl⟩
  have HQ := hid h
  have HN := hid hn
  rw [hn] at hc0 HQ ⊢
  unfold maxLen at hc1
  clear h hn
  by_cases hb : (150 : Int) < n
  · go_enter Tryd.func8, Tryd.ntmps8
    go_wp2
    go_ret
    exact ⟨⟨true, rfl, fun h => by cases h⟩, Below.refl _ _⟩
  · have hb' : ¬ (150 : Int) < n := hb
    have hn150 : n ≤ 150 := by omega
    go_enter Tryd.func8, Tryd.ntmps8
    go_wp2
    go_loopw [3] (fun i wr => ∃ k : Nat, k ≤ n ∧ i = .int .i64 k ∧ (∀ q ∈ qs.take k, q.2.1.fine ∧ q.2.1.cuts.length ≤ 40) ∧ Below w.heap.size w wr) (fun i _ => n - (intOf i).toNat)
    case atStart => exact ⟨0, Nat.zero_le _, rfl, fun q hq => by simp at hq, Below.refl _ _⟩
    case round =>
      obtain ⟨k, hk, rfl, hl, hbl⟩ := hrel
      have HL := hid hl
      have B := hid hbl
      clear hl hbl
      by_cases hlt : k < n
      · have hlt' : (k : Int) < (n : Int) := by omega
        have hx : k < qs.length := by rw [HN.out]; exact hlt
        obtain ⟨b, off, c', e1, hbb, hcc⟩ := HQ.out.inv (by omega)
        rw [HN.out] at e1
        simp only [Value.slice.injEq] at e1
        obtain ⟨rfl, -, rfl⟩ := e1
        obtain ⟨_, hc⟩ := hcc k hx
        obtain ⟨⟨m, o, u⟩, hp⟩ : ∃ p, qs[k] = p := ⟨_, rfl⟩
        have hcs := HQ.out.2 _ (List.getElem_mem hx)
        rw [hp] at hc hcs
        dsimp only at hc hcs
        have HP := hid hp
        have HC : Hid (∀ j, j < 20 → wr.cell? ⟨b, off + k * 21 + 1 + j, none⟩ = (opl o u)[j]?) := hid (fun j hj => (B.out.cell (p := ⟨b, off + k * 21 + 1 + j, none⟩) hbb).trans (hc j hj))
        have hA := ba wr (opo o u)
        have O7 := hid (Os.one wr o u (hcs.below B.out))
        have B7 := hid (bt B.out hA)
        have HLG := hid (long_all _ [(o, u)] 1 (wr.alloc (opo o u)) O7.out (by decide))
        clear hcc hc hp hcs hA
        cases hlo : longB [(o, u)] 1
        · rw [hlo] at HLG
          have HNO := hid (longB_no hlo)
          clear hlo
          go_wp2_with (first | (refine wpList_val _ rfl (run_load_opat rfl rfl HC.out) ?_) | (refine wpList_ops1 rfl _ rfl o u rfl ?_) | fail)
          refine HLG.out.mono ?_
          rintro e w2 ⟨rfl, rfl⟩
          go_wp2_with fail
          go_roundw
          case rel =>
            refine ⟨k + 1, hlt, by go_num, fun q hq => ?_, B7.out⟩
            rw [List.take_succ_eq_append_getElem hx, HP.out] at hq
            rcases List.mem_append.1 hq with hq | hq
            · exact HL.out q hq
            · rw [List.mem_singleton.1 hq]; exact HNO.out.2 (o, u) (by simp)
          case measure => simp [intOf]; omega
        · rw [hlo] at HLG
          clear hlo
          go_wp2_with (first | (refine wpList_val _ rfl (run_load_opat rfl rfl HC.out) ?_) | (refine wpList_ops1 rfl _ rfl o u rfl ?_) | fail)
          refine HLG.out.mono ?_
          rintro e w2 ⟨rfl, rfl⟩
          go_wp2
          go_ret
          exact ⟨⟨true, rfl, fun h => by cases h⟩, B7.out⟩
      · obtain rfl : k = n := by omega
        have hnl : ¬ (k : Int) < (k : Int) := by omega
        go_wp2
        go_ret
        exact ⟨⟨false, rfl, fun _ => ⟨by rw [HN.out]; exact hn150, fun q hq => HL.out q (by rw [List.take_of_length_le (by rw [HN.out]; exact Nat.le_refl _)]; exact hq)⟩⟩, B.out⟩

end Go.Proofs.YtaojeanoojnknaaDoor

/-
  What an argument's reading gives: a list of calls ('Kq').
-/
namespace Go.Proofs.YtaojeanoojnknaaDoor
open Go.RowKit Go.ChangeShapes Go.WideShapes Go.ChangeAt
set_option linter.unusedVariables false
set_option maxRecDepth 100000

theorem cells_koe : Tryd.prog.cellsOf 46 = 21 := by kernel_rfl
section
variable {H : Type} {enc : TypeId × Value → H} {W : World} {held : Bool}
theorem trod_koe {n : Nat} {cs : List Value} {x : DataW H × List MemPlace} (h : DataW.trod enc Tryd.prog W 0 (fun _ => true) held n 46 cs = some x) : ∃ q : Koe, cs = koc q ∧ Cs W q.2.2 q.2.1.cuts := by
  obtain ⟨y0, y1, n, _, hl, h0, h1⟩ := trod_struct2 Tryd.underlying46 h
  rw [cells_koe] at hl
  cases cs with
  | nil => cases hl
  | cons v0 cs =>
    simp [cells_int, cells_op] at h0 h1
    have hl' : cs.length = 20 := by simpa using hl
    rw [List.take_of_length_le (by omega)] at h1
    obtain ⟨r, e0, _⟩ := DataW.trod_int Tryd.underlying3 h0
    obtain ⟨o, u, e1, hc⟩ := trod_op h1
    simp at e0
    subst e0
    exact ⟨(r, o, u), by rw [e1], hc⟩
theorem open_kcals {b0 : Nat} {v : Value} {d : DataW H} {p : List MemPlace} (hv : Value.okWide Tryd.prog W .any b0 22 v) (h : DataW.Trod enc Tryd.prog W 0 (fun _ => true) held 22 v d p) : ∃ qs, Kq W v qs := by
  obtain ⟨a, len, cap, rfl⟩ := okWide_slice Tryd.underlying22 hv
  obtain ⟨fuel, hf⟩ := h
  rcases Go.Deep.open_slice Tryd.underlying22 hf with ⟨hcs, _⟩ | ⟨x, l, c, m, n, D, Pl, hcs, _, hl, hm, hmm, _, hx⟩
  · simp [Value.cells] at hcs
    obtain ⟨rfl, rfl, rfl⟩ := hcs
    exact ⟨[], Kq.nil W⟩
  · simp [Value.cells] at hcs
    obtain ⟨rfl, rfl, rfl⟩ := hcs
    simp at hmm
    subst hmm
    rw [cells_koe] at hx
    have each : ∀ i, i < len → ∃ q : Koe, W.cells? 0 (x.add (i * 21)) 21 = some (koc q) ∧ Cs W q.2.2 q.2.1.cuts := fun i hi => by
      obtain ⟨cs', h1, h2⟩ := hx i (by omega)
      obtain ⟨q, rfl, hc⟩ := trod_koe h2
      exact ⟨q, h1, hc⟩
    have hinh : Inhabited Koe := ⟨(0, Opn.zero, .slice none 0 0)⟩
    obtain ⟨q, hq⟩ := Go.Deep.choose_lt each
    refine ⟨(List.range len).map q, ?_, fun p hp => ?_⟩
    · have := Sl.of_rows (sz := 21) (W := W) (x := x) (by decide) hl hm (fun i => koc (q i)) (fun i hi => ⟨rfl, fun j u hu => by
        obtain ⟨_, _, hcell⟩ := World.cells?_some (hq i hi).1
        have hj : j < 21 := (List.getElem?_eq_some_iff.1 hu).1
        have := hcell j hj
        rw [Go.Deep.add_add] at this
        rw [this, hu]⟩)
      rw [List.length_map, List.length_range, List.flatMap_map]
      exact this
    · obtain ⟨i, hi, rfl⟩ := List.mem_map.1 hp
      exact (hq i (List.mem_range.1 hi)).2
end

end Go.Proofs.YtaojeanoojnknaaDoor
