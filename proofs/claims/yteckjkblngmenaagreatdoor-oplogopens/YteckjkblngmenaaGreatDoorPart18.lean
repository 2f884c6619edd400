/-
  Parts of the proof, one behind the other; what each proves stands at its head.
-/
import Derived.Test.YteckjkblngmenaaGreatDoorPart17
import Derived.Test.YteckjkblngmenaaGreatDoorPart8

/-
  The walk's laws for the block of what the reference's Read tells: the world behind each step by a name.
-/
namespace Go.Proofs.YteckjkblngmenaaGreatDoor
open Go.RowKit
set_option linter.unusedVariables false
set_option maxRecDepth 100000

/-- A block of what is told. -/
abbrev Tk (w : World) (b : Nat) (r : Int) (vf ve : Value) : Prop := w.heap[b]? = some (.cells #[.int .i64 r, vf, ve] 55 (0, 0))
abbrev tdv (r : Int) (vf ve : Value) : Value := .agg #[.int .i64 r, vf, ve]
abbrev tdo : Obj := .cells #[.int .i64 0, .slice none 0 0, .slice none 0 0] 55 (0, 0)
theorem Tk.lt {w : World} {b : Nat} {r : Int} {vf ve : Value} (h : Tk w b r vf ve) : b < w.heap.size := (Array.getElem?_eq_some_iff.1 h).1
theorem Tk.below {w w' : World} {b : Nat} {r : Int} {vf ve : Value} (h : Tk w b r vf ve) (hb : Below w.heap.size w w') : Tk w' b r vf ve := (hb.block b h.lt).trans h
theorem Tk.low {B : Nat} {w w' : World} {b : Nat} {r : Int} {vf ve : Value} (h : Tk w b r vf ve) (hb : Below B w w') (hB : b < B) : Tk w' b r vf ve := (hb.block b hB).trans h
/-- What the walk reads. -/
theorem Tk.cells {w : World} {b : Nat} {r : Int} {vf ve : Value} (h : Tk w b r vf ve) : w.cell? ⟨b, 0, none⟩ = some (.int .i64 r) ∧ w.cell? ⟨b, 1, none⟩ = some vf ∧ w.cell? ⟨b, 2, none⟩ = some ve := by
  refine ⟨?_, ?_, ?_⟩
  · rw [cell_of_row w b 0 _ _ _ h]; rfl
  · rw [cell_of_row w b 1 _ _ _ h]; rfl
  · rw [cell_of_row w b 2 _ _ _ h]; rfl
theorem info_in : (Tryz.prog.info? 3).map (fun i => (i.zero, i.size, i.bytes)) = some (some (.int .i64 0), 1, 8) := by kernel_rfl

section
variable {ops : Array Oper} {rest : List Oper} {p : Oper} {a : Act} {W w w' : World} {Q : Exit → Act → World → Prop}
theorem run_al_td (ho : p.op = .alloc 55) : (execOp a.eval p).run Tryz.prog W = .ok (.value (.pointer (some ⟨W.heap.size, 0, none⟩))) (W.alloc tdo) := by
  unfold execOp
  simp only [ho]
  kernel_rfl
theorem wpList_al_td (hw : Region.wanted p (yielded ops a.tmps) = true) (ho : p.op = .alloc 55)
    (hk : ∀ W', Tk W' W.heap.size 0 (.slice none 0 0) (.slice none 0 0) → Below W.heap.size W W' → W.heap.size < W'.heap.size → wpList Tryz.prog ops Q rest (a.put p.dst (.pointer (some ⟨W.heap.size, 0, none⟩))) W') : wpList Tryz.prog ops Q (p :: rest) a W :=
  BigFrame.wpList_want hw fun K hK => by unfold Oper.wp; rw [run_al_td ho]; exact hK _ _ (hk _ (heap_alloc_new W _) (ba W _) (by simp))
theorem wpList_st_td {x y : Operand} {b : Nat} {r r' : Int} {vf ve vf' ve' : Value} (hgd : p.guard = none) (ho : p.op = .store 55 x y)
    (hx : a.eval x = .pointer (some ⟨b, 0, none⟩)) (hy : a.eval y = tdv r vf ve) (hv : (∃ va n vc, vf = .slice va n vc) ∧ ∃ va n vc, ve = .slice va n vc) (h : Tk W b r' vf' ve')
    (hk : ∀ W', Tk W' b r vf ve → Fr (fun k => k = b) W W' → wpList Tryz.prog ops Q rest (a.put p.dst undef) W') : wpList Tryz.prog ops Q (p :: rest) a W :=
  wpList_store_row hgd 55 x y ho b #[.int .i64 r, vf, ve] hx hy 55 #[.int .i64 r', vf', ve'] h (by kernel_rfl) rfl (by obtain ⟨⟨va, n, vc, rfl⟩, ⟨va2, n2, vc2, rfl⟩⟩ := hv; simp [Value.oneCell']) (hk _ (setRow_heap _ _ _ _ _ _ h) (Fr.of_row W b _))
theorem Tk.load {b : Nat} {r : Int} {vf ve : Value} (h : Tk w b r vf ve) : (loadVar 55 ⟨b, 0, none⟩).run Tryz.prog w = .ok (tdv r vf ve) w :=
  run_loadVar_row w b 55 55 #[.int .i64 r, vf, ve] (0, 0) _ h Tryz.underlying55 rfl (by kernel_rfl)
theorem wpList_ld_td {x : Operand} {b : Nat} {r : Int} {vf ve : Value} (hgd : p.guard = none) (ho : p.op = .load 55 x) (hx : a.eval x = .pointer (some ⟨b, 0, none⟩)) (h : Tk w b r vf ve)
    (hk : wpList Tryz.prog ops Q rest (a.put p.dst (tdv r vf ve)) w) : wpList Tryz.prog ops Q (p :: rest) a w :=
  wpList_load_row hgd 55 x ho b hx 55 #[.int .i64 r, vf, ve] (0, 0) _ h Tryz.underlying55 rfl (by kernel_rfl) hk
theorem results_td2 {fn : Func} {p u : Tmp} (h : fn.results = #[.cell p 55, .tmp u]) (tmps : Array Value) (w : World) {b : Nat} {r : Int} {vf ve : Value} (hp : tmps.getD p undef = .pointer (some ⟨b, 0, none⟩)) (hs : Tk w b r vf ve) :
    (results fn tmps).run Tryz.prog w = .ok (.tuple #[tdv r vf ve, tmps.getD u undef]) w := by
  have hl := hs.load
  have hp' : tmps[p]?.getD undef = .pointer (some ⟨b, 0, none⟩) := by simpa using hp
  simp [results, h, hp', asAddr, hl]
variable {B b : Nat} {r : Int} {vf ve : Value} {us : List Value} {lls : List (List (Opn × Value))} {zs : List Nat} {x y : Operand}
theorem wpList_td_f {vf' : Value} {us' : List Value} {lls' : List (List (Opn × Value))} (hgd : p.guard = none) (ho : p.op = .store 52 x y) (hx : a.eval x = .pointer (some ⟨b, 1, none⟩)) (hy : a.eval y = vf') (hvs : ∃ va n c, vf' = .slice va n c)
    (h : Td B w b r vf ve us lls zs) (hown : Pl B w' vf' us') (hfr : Fr (fun k => vf.ownBlock = some k) w w') (hv : ∀ k, vf'.ownBlock = some k → vf.ownBlock = some k ∨ w.heap.size ≤ k) (hq : Uq B (Tb b vf ve) w us' lls')
    (hk : ∀ W', Td B W' b r vf' ve us' lls' zs → Lx (Tb b vf ve) (Tb b vf' ve) w W' → wpList Tryz.prog ops Q rest (a.put p.dst undef) W') : wpList Tryz.prog ops Q (p :: rest) a w' := by
  have hb' : Tk w' b r vf ve := by show w'.heap[b]? = _; rw [hfr.block b h.lt h.nf]; exact h.blk
  obtain ⟨k1, k2⟩ := h.frames hown hfr hv hq
  refine wpList_none hgd ?_ (hk _ k1 k2)
  obtain ⟨va, n, c, rfl⟩ := hvs
  have c1 := cell_of_row w' b 1 _ _ _ hb'
  have f1 := frozen_of_row w' b 1 _ _ hb'
  simp only [List.getElem?_toArray, List.getElem?_cons_zero, List.getElem?_cons_succ] at c1
  unfold execOp
  simp only [ho, hx, hy]
  simp [go_sem, c1, f1]
theorem wpList_td_e {ve' : Value} {zs' : List Nat} (hgd : p.guard = none) (ho : p.op = .store 53 x y) (hx : a.eval x = .pointer (some ⟨b, 2, none⟩)) (hy : a.eval y = ve') (hvs : ∃ va n c, ve' = .slice va n c)
    (h : Td B w b r vf ve us lls zs) (hown : Zl B w' ve' zs') (hfr : Fr (fun k => ve.ownBlock = some k) w w') (hv : ∀ k, ve'.ownBlock = some k → ve.ownBlock = some k ∨ w.heap.size ≤ k)
    (hk : ∀ W', Td B W' b r vf ve' us lls zs' → Lx (Tb b vf ve) (Tb b vf ve') w W' → wpList Tryz.prog ops Q rest (a.put p.dst undef) W') : wpList Tryz.prog ops Q (p :: rest) a w' := by
  have hb' : Tk w' b r vf ve := by show w'.heap[b]? = _; rw [hfr.block b h.lt h.ne]; exact h.blk
  obtain ⟨k1, k2⟩ := h.ends hown hfr hv
  refine wpList_none hgd ?_ (hk _ k1 k2)
  obtain ⟨va, n, c, rfl⟩ := hvs
  have c2 := cell_of_row w' b 2 _ _ _ hb'
  have f2 := frozen_of_row w' b 2 _ _ hb'
  simp only [List.getElem?_toArray, List.getElem?_cons_zero, List.getElem?_cons_succ] at c2
  unfold execOp
  simp only [ho, hx, hy]
  simp [go_sem, c2, f2]
theorem wpList_tk_r {q : Int} (hgd : p.guard = none) (ho : p.op = .store 3 x y) (hx : a.eval x = .pointer (some ⟨b, 0, none⟩)) (hy : a.eval y = .int .i64 q)
    (h : Tk w b r vf ve) (hk : ∀ W', Tk W' b q vf ve → Fr (fun k => k = b) w W' → wpList Tryz.prog ops Q rest (a.put p.dst undef) W') : wpList Tryz.prog ops Q (p :: rest) a w := by
  refine wpList_none hgd ?_ (hk (w.setCell ⟨b, 0, none⟩ (.int .i64 q)) (by show (w.setCell _ _).heap[b]? = _; rw [heap_setCell_same w b 0 _ _ _ h]; simp) (Fr.of_set w b 0 _))
  have c0 := cell_of_row w b 0 _ _ _ h
  have f0 := frozen_of_row w b 0 _ _ h
  simp only [List.getElem?_toArray, List.getElem?_cons_zero] at c0
  unfold execOp
  simp only [ho, hx, hy]
  simp [go_sem, c0, f0]
theorem Tk.no_byte (h : Tk w b r (.slice none 0 0) (.slice none 0 0)) : ∀ k, k = b → ∀ j x, w.cell? ⟨k, j, none⟩ ≠ some (.int .u8 x) := by
  rintro k rfl j x e
  rw [cell_of_row w k j _ _ _ h] at e
  match j with
  | 0 => simp at e
  | 1 => simp at e
  | 2 => simp at e
  | j + 3 => simp at e
/-- A list more, as an append leaves it. -/
theorem wpList_td_f1 {vf' u : Value} {l : List (Opn × Value)} (hgd : p.guard = none) (ho : p.op = .store 52 x y) (hx : a.eval x = .pointer (some ⟨b, 1, none⟩)) (hy : a.eval y = vf') (hvs : ∃ va n c, vf' = .slice va n c)
    (h : Td B w b r vf ve us lls zs) (hown : w'.ownsRow B 38 1 vf' (us.length + 1) (us ++ [u])) (hg : w.grownBy w' vf.ownBlock) (hv : vf'.ownBlock = vf.ownBlock ∨ vf'.ownBlock = some w.heap.size) (hu : Oq (Tb b vf ve) w u l) (hn : Nn B u l)
    (hk : ∀ W', Td B W' b r vf' ve (us ++ [u]) (lls ++ [l]) zs → Lx (Tb b vf ve) (Tb b vf' ve) w W' → wpList Tryz.prog ops Q rest (a.put p.dst undef) W') : wpList Tryz.prog ops Q (p :: rest) a w' :=
  wpList_td_f hgd ho hx hy hvs h (by show World.ownsRow _ _ _ _ _ _ _; rw [List.length_append]; exact hown) (Fr.of_grown hg (fun k e => e)) (fun k hk => hv.elim (fun e => .inl (e ▸ hk)) (fun e => by rw [e] at hk; exact .inr (Nat.le_of_eq (Option.some.inj hk)))) (h.uq.snoc hu hn) hk
theorem wpList_td_e1 {ve' : Value} {z : Nat} (hgd : p.guard = none) (ho : p.op = .store 53 x y) (hx : a.eval x = .pointer (some ⟨b, 2, none⟩)) (hy : a.eval y = ve') (hvs : ∃ va n c, ve' = .slice va n c)
    (h : Td B w b r vf ve us lls zs) (hown : w'.ownsRow B 3 1 ve' (zs.length + 1) ((zs.map fun (z : Nat) => Value.int .i64 (z : Int)) ++ [.int .i64 z])) (hg : w.grownBy w' ve.ownBlock) (hv : ve'.ownBlock = ve.ownBlock ∨ ve'.ownBlock = some w.heap.size)
    (hk : ∀ W', Td B W' b r vf ve' us lls (zs ++ [z]) → Lx (Tb b vf ve) (Tb b vf ve') w W' → wpList Tryz.prog ops Q rest (a.put p.dst undef) W') : wpList Tryz.prog ops Q (p :: rest) a w' :=
  wpList_td_e hgd ho hx hy hvs h (by show World.ownsRow _ _ _ _ _ _ _; rw [List.length_append, List.map_append]; exact hown) (Fr.of_grown hg (fun k e => e)) (fun k hk => hv.elim (fun e => .inl (e ▸ hk)) (fun e => by rw [e] at hk; exact .inr (Nat.le_of_eq (Option.some.inj hk)))) hk
/-- A load of a field. -/
theorem wpList_ld_f {i : Nat} {T : TypeId} {v : Value} (hT : T = 52 ∨ T = 53) (hgd : p.guard = none) (ho : p.op = .load T x) (hx : a.eval x = .pointer (some ⟨b, i, none⟩)) (h : w.cell? ⟨b, i, none⟩ = some v)
    (hk : wpList Tryz.prog ops Q rest (a.put p.dst v) w) : wpList Tryz.prog ops Q (p :: rest) a w := by
  refine wpList_new hgd ?_ hk
  unfold execOp
  simp only [ho, hx]
  rcases hT with rfl | rfl
  · simp [go_sem, h]
  · simp [go_sem, h]
end
end Go.Proofs.YteckjkblngmenaaGreatDoor

/-
  What the reference's kept answers is proved here, for every op.
-/
namespace Go.Proofs.YteckjkblngmenaaGreatDoor
open Go.RowKit
set_option linter.unusedVariables false
set_option maxRecDepth 100000

/-- An op with the fields that its kind tells, alone. -/
def keptO (o : Opn) : Opn :=
  if o.k = 1 then { headO o with pr := o.pr, pm := o.pm, key := o.key }
  else if o.k = 2 then { headO o with br := o.br, bm := o.bm, pr := o.pr, pm := o.pm, key := o.key }
  else if o.k = 3 then { headO o with sr := o.sr, sm := o.sm, lr := o.lr, lm := o.lm, li := o.li, gr := o.gr, gm := o.gm, gi := o.gi, text := o.text }
  else if o.k = 4 then { headO o with cuts := o.cuts }
  else if o.k = 5 then { headO o with sr := o.sr, sm := o.sm, lr := o.lr, lm := o.lm, li := o.li, gr := o.gr, gm := o.gm, gi := o.gi, pr := o.pr, pm := o.pm, key := o.key }
  else if o.k = 6 then { headO o with br := o.br, bm := o.bm, flag := o.flag }
  else headO o

def KV (o : Opn) (v u : Value) : Prop := (o.k = 4 → u = v) ∧ (o.k ≠ 4 → u = .slice none 0 0)

set_option maxHeartbeats 8000000 in
theorem kept_box (A : Value) (o : Opn) (v : Value) (hA : A = opv o v) (w : World) (hC : Cs w v o.cuts) :
    Calls Tryz.prog 79 #[A] w fun e w' => ∃ u, e = .returned (opv (keptO o) u) ∧ Cs w' u (keptO o).cuts ∧ Below w.heap.size w w' ∧ KV o v u := by
  obtain ⟨va, vc, rfl, _, _⟩ := hC.form
  have HAA := hid hA
  have HC := hid hC
  clear hA hC
  have HCN := hid (Cs.nil w)
  obtain ⟨X, hX⟩ : ∃ X, keptO o = X := ⟨_, rfl⟩
  rw [hX]
  have HX := hid hX
  clear hX
  go_enter Tryz.func79, Tryz.ntmps79
  go_upto_region 1 with (first
    | (refine wpList_box_op rfl (.tmp 0) rfl A rfl o _ HAA.out ?_; intro w1 hob hb1 hlt1; have HO := hid hob; have BB := hid hb1; have hlt1' := hlt1; clear hob hb1 hlt1)
    | (refine wpList_al_op rfl rfl ?_; intro w2 hz hb2 hlt2; replace HO := hid (HO.out.below hb2); replace BB := hid (bt BB.out hb2); have HZ := hid hz; obtain ⟨r, hr⟩ : ∃ r, w1.heap.size = r := ⟨_, rfl⟩; rw [hr] at HZ hlt1' hlt2; rw [hr]; clear hz hb2 hr))
  go_upto_region 2 with (first
    | (refine wpList_ld_kind rfl rfl rfl HO.out ?_) | (refine wpList_ld_id rfl rfl rfl HO.out ?_) | (refine wpList_ld_t rfl rfl rfl HO.out ?_)
    | (refine wpList_build_head rfl _ _ _ rfl o rfl rfl rfl ?_)
    | (refine wpList_al_op rfl rfl ?_; intro w3 hz hb3 hlt3; replace HO := hid (HO.out.below hb3); replace HZ := hid (HZ.out.below hb3); replace BB := hid (bt BB.out hb3); have HK := hid hz; obtain ⟨kb, hkb⟩ : ∃ r, w2.heap.size = r := ⟨_, rfl⟩; rw [hkb] at HK hlt2; rw [hkb]; clear hz hb3 hkb)
    | (refine wpList_st_op rfl rfl rfl rfl ⟨_,_,_,rfl⟩ HK.out ?_; have hbk : ¬ w.heap.size = kb := Nat.ne_of_lt (Nat.lt_trans hlt1' hlt2); have hrk : ¬ r = kb := Nat.ne_of_lt hlt2; have hkB : w.heap.size ≤ kb := Nat.le_of_lt (Nat.lt_trans hlt1' hlt2); have hrB : w.heap.size ≤ r := Nat.le_of_lt hlt1'; intro W' hk' hf'; replace HO := hid (HO.out.fr hf' hbk); replace HZ := hid (HZ.out.fr hf' hrk); replace HK := hid hk'; replace BB := hid (below_fr BB.out hf' hkB); clear hk' hf')
    | fail)
  by_cases h1 : o.k = 1
  · go_wp2_with (first | (refine wpList_ld_kind rfl rfl rfl HO.out ?_) | (refine wpList_ld_parent rfl rfl rfl HO.out ?_) | (refine wpList_ld_key rfl rfl rfl HO.out ?_) | (refine wpList_st_parent rfl rfl rfl rfl HK.out ?_; intro W' hk' hf'; replace HO := hid (HO.out.fr hf' hbk); replace HZ := hid (HZ.out.fr hf' hrk); replace HK := hid hk'; replace BB := hid (below_fr BB.out hf' hkB); clear hk' hf') | (refine wpList_st_key rfl rfl rfl rfl HK.out ?_; intro W' hk' hf'; replace HO := hid (HO.out.fr hf' hbk); replace HZ := hid (HZ.out.fr hf' hrk); replace HK := hid hk'; replace BB := hid (below_fr BB.out hf' hkB); clear hk' hf') | (refine wpList_load_op rfl (.tmp 3) rfl kb rfl _ _ HK.out ?_) | (refine wpList_st_op rfl rfl rfl rfl ⟨_,_,_,rfl⟩ HZ.out ?_; intro W' hk' hf'; replace HZ := hid hk'; replace BB := hid (below_fr BB.out hf' hrB); clear hk' hf') | fail)
    refine bodyPost_ret (results_cell_row rfl _ _ r 77 _ (0, 0) _ rfl HZ.out Tryz.underlying77 rfl (by kernel_rfl)) rfl ?_
    have hx := HX.out
    unfold keptO at hx
    rw [if_pos h1] at hx
    subst hx
    exact ⟨_, rfl, HCN.out.below BB.out, BB.out, ⟨fun e => absurd (h1.symm.trans e) (by decide), fun _ => rfl⟩⟩
  by_cases h2 : o.k = 2
  · go_wp2_with (first | (refine wpList_ld_kind rfl rfl rfl HO.out ?_) | (refine wpList_ld_block rfl rfl rfl HO.out ?_) | (refine wpList_ld_parent rfl rfl rfl HO.out ?_) | (refine wpList_ld_key rfl rfl rfl HO.out ?_) | (refine wpList_st_block rfl rfl rfl rfl HK.out ?_; intro W' hk' hf'; replace HO := hid (HO.out.fr hf' hbk); replace HZ := hid (HZ.out.fr hf' hrk); replace HK := hid hk'; replace BB := hid (below_fr BB.out hf' hkB); clear hk' hf') | (refine wpList_st_parent rfl rfl rfl rfl HK.out ?_; intro W' hk' hf'; replace HO := hid (HO.out.fr hf' hbk); replace HZ := hid (HZ.out.fr hf' hrk); replace HK := hid hk'; replace BB := hid (below_fr BB.out hf' hkB); clear hk' hf') | (refine wpList_st_key rfl rfl rfl rfl HK.out ?_; intro W' hk' hf'; replace HO := hid (HO.out.fr hf' hbk); replace HZ := hid (HZ.out.fr hf' hrk); replace HK := hid hk'; replace BB := hid (below_fr BB.out hf' hkB); clear hk' hf') | (refine wpList_load_op rfl (.tmp 3) rfl kb rfl _ _ HK.out ?_) | (refine wpList_st_op rfl rfl rfl rfl ⟨_,_,_,rfl⟩ HZ.out ?_; intro W' hk' hf'; replace HZ := hid hk'; replace BB := hid (below_fr BB.out hf' hrB); clear hk' hf') | fail)
    refine bodyPost_ret (results_cell_row rfl _ _ r 77 _ (0, 0) _ rfl HZ.out Tryz.underlying77 rfl (by kernel_rfl)) rfl ?_
    have hx := HX.out
    unfold keptO at hx
    rw [if_neg h1, if_pos h2] at hx
    subst hx
    exact ⟨_, rfl, HCN.out.below BB.out, BB.out, ⟨fun e => absurd (h2.symm.trans e) (by decide), fun _ => rfl⟩⟩
  by_cases h3 : o.k = 3
  · go_wp2_with (first | (refine wpList_ld_kind rfl rfl rfl HO.out ?_) | (refine wpList_ld_seg rfl rfl rfl HO.out ?_) | (refine wpList_ld_left rfl rfl rfl HO.out ?_) | (refine wpList_ld_right rfl rfl rfl HO.out ?_) | (refine wpList_ld_text rfl rfl rfl HO.out ?_) | (refine wpList_st_seg rfl rfl rfl rfl HK.out ?_; intro W' hk' hf'; replace HO := hid (HO.out.fr hf' hbk); replace HZ := hid (HZ.out.fr hf' hrk); replace HK := hid hk'; replace BB := hid (below_fr BB.out hf' hkB); clear hk' hf') | (refine wpList_st_left rfl rfl rfl rfl HK.out ?_; intro W' hk' hf'; replace HO := hid (HO.out.fr hf' hbk); replace HZ := hid (HZ.out.fr hf' hrk); replace HK := hid hk'; replace BB := hid (below_fr BB.out hf' hkB); clear hk' hf') | (refine wpList_st_right rfl rfl rfl rfl HK.out ?_; intro W' hk' hf'; replace HO := hid (HO.out.fr hf' hbk); replace HZ := hid (HZ.out.fr hf' hrk); replace HK := hid hk'; replace BB := hid (below_fr BB.out hf' hkB); clear hk' hf') | (refine wpList_st_text rfl rfl rfl rfl HK.out ?_; intro W' hk' hf'; replace HO := hid (HO.out.fr hf' hbk); replace HZ := hid (HZ.out.fr hf' hrk); replace HK := hid hk'; replace BB := hid (below_fr BB.out hf' hkB); clear hk' hf') | (refine wpList_load_op rfl (.tmp 3) rfl kb rfl _ _ HK.out ?_) | (refine wpList_st_op rfl rfl rfl rfl ⟨_,_,_,rfl⟩ HZ.out ?_; intro W' hk' hf'; replace HZ := hid hk'; replace BB := hid (below_fr BB.out hf' hrB); clear hk' hf') | fail)
    refine bodyPost_ret (results_cell_row rfl _ _ r 77 _ (0, 0) _ rfl HZ.out Tryz.underlying77 rfl (by kernel_rfl)) rfl ?_
    have hx := HX.out
    unfold keptO at hx
    rw [if_neg h1, if_neg h2, if_pos h3] at hx
    subst hx
    exact ⟨_, rfl, HCN.out.below BB.out, BB.out, ⟨fun e => absurd (h3.symm.trans e) (by decide), fun _ => rfl⟩⟩
  by_cases h4 : o.k = 4
  · go_wp2_with (first | (refine wpList_ld_kind rfl rfl rfl HO.out ?_) | (refine wpList_ld_cuts rfl rfl rfl HO.out ?_) | (refine wpList_st_cuts o.cuts rfl rfl rfl rfl HK.out ?_; intro W' hk' hf'; replace HO := hid (HO.out.fr hf' hbk); replace HZ := hid (HZ.out.fr hf' hrk); replace HK := hid hk'; replace BB := hid (below_fr BB.out hf' hkB); clear hk' hf') | (refine wpList_load_op rfl (.tmp 3) rfl kb rfl _ _ HK.out ?_) | (refine wpList_st_op rfl rfl rfl rfl ⟨_,_,_,rfl⟩ HZ.out ?_; intro W' hk' hf'; replace HZ := hid hk'; replace BB := hid (below_fr BB.out hf' hrB); clear hk' hf') | fail)
    refine bodyPost_ret (results_cell_row rfl _ _ r 77 _ (0, 0) _ rfl HZ.out Tryz.underlying77 rfl (by kernel_rfl)) rfl ?_
    have hx := HX.out
    unfold keptO at hx
    rw [if_neg h1, if_neg h2, if_neg h3, if_pos h4] at hx
    subst hx
    exact ⟨_, rfl, HC.out.below BB.out, BB.out, ⟨fun _ => rfl, fun e => absurd h4 e⟩⟩
  by_cases h5 : o.k = 5
  · go_wp2_with (first | (refine wpList_ld_kind rfl rfl rfl HO.out ?_) | (refine wpList_ld_seg rfl rfl rfl HO.out ?_) | (refine wpList_ld_left rfl rfl rfl HO.out ?_) | (refine wpList_ld_right rfl rfl rfl HO.out ?_) | (refine wpList_ld_parent rfl rfl rfl HO.out ?_) | (refine wpList_ld_key rfl rfl rfl HO.out ?_) | (refine wpList_st_seg rfl rfl rfl rfl HK.out ?_; intro W' hk' hf'; replace HO := hid (HO.out.fr hf' hbk); replace HZ := hid (HZ.out.fr hf' hrk); replace HK := hid hk'; replace BB := hid (below_fr BB.out hf' hkB); clear hk' hf') | (refine wpList_st_left rfl rfl rfl rfl HK.out ?_; intro W' hk' hf'; replace HO := hid (HO.out.fr hf' hbk); replace HZ := hid (HZ.out.fr hf' hrk); replace HK := hid hk'; replace BB := hid (below_fr BB.out hf' hkB); clear hk' hf') | (refine wpList_st_right rfl rfl rfl rfl HK.out ?_; intro W' hk' hf'; replace HO := hid (HO.out.fr hf' hbk); replace HZ := hid (HZ.out.fr hf' hrk); replace HK := hid hk'; replace BB := hid (below_fr BB.out hf' hkB); clear hk' hf') | (refine wpList_st_parent rfl rfl rfl rfl HK.out ?_; intro W' hk' hf'; replace HO := hid (HO.out.fr hf' hbk); replace HZ := hid (HZ.out.fr hf' hrk); replace HK := hid hk'; replace BB := hid (below_fr BB.out hf' hkB); clear hk' hf') | (refine wpList_st_key rfl rfl rfl rfl HK.out ?_; intro W' hk' hf'; replace HO := hid (HO.out.fr hf' hbk); replace HZ := hid (HZ.out.fr hf' hrk); replace HK := hid hk'; replace BB := hid (below_fr BB.out hf' hkB); clear hk' hf') | (refine wpList_load_op rfl (.tmp 3) rfl kb rfl _ _ HK.out ?_) | (refine wpList_st_op rfl rfl rfl rfl ⟨_,_,_,rfl⟩ HZ.out ?_; intro W' hk' hf'; replace HZ := hid hk'; replace BB := hid (below_fr BB.out hf' hrB); clear hk' hf') | fail)
    refine bodyPost_ret (results_cell_row rfl _ _ r 77 _ (0, 0) _ rfl HZ.out Tryz.underlying77 rfl (by kernel_rfl)) rfl ?_
    have hx := HX.out
    unfold keptO at hx
    rw [if_neg h1, if_neg h2, if_neg h3, if_neg h4, if_pos h5] at hx
    subst hx
    exact ⟨_, rfl, HCN.out.below BB.out, BB.out, ⟨fun e => absurd (h5.symm.trans e) (by decide), fun _ => rfl⟩⟩
  by_cases h6 : o.k = 6
  · go_wp2_with (first | (refine wpList_ld_kind rfl rfl rfl HO.out ?_) | (refine wpList_ld_block rfl rfl rfl HO.out ?_) | (refine wpList_ld_flag rfl rfl rfl HO.out ?_) | (refine wpList_st_block rfl rfl rfl rfl HK.out ?_; intro W' hk' hf'; replace HO := hid (HO.out.fr hf' hbk); replace HZ := hid (HZ.out.fr hf' hrk); replace HK := hid hk'; replace BB := hid (below_fr BB.out hf' hkB); clear hk' hf') | (refine wpList_st_flag rfl rfl rfl rfl HK.out ?_; intro W' hk' hf'; replace HO := hid (HO.out.fr hf' hbk); replace HZ := hid (HZ.out.fr hf' hrk); replace HK := hid hk'; replace BB := hid (below_fr BB.out hf' hkB); clear hk' hf') | (refine wpList_load_op rfl (.tmp 3) rfl kb rfl _ _ HK.out ?_) | (refine wpList_st_op rfl rfl rfl rfl ⟨_,_,_,rfl⟩ HZ.out ?_; intro W' hk' hf'; replace HZ := hid hk'; replace BB := hid (below_fr BB.out hf' hrB); clear hk' hf') | fail)
    refine bodyPost_ret (results_cell_row rfl _ _ r 77 _ (0, 0) _ rfl HZ.out Tryz.underlying77 rfl (by kernel_rfl)) rfl ?_
    have hx := HX.out
    unfold keptO at hx
    rw [if_neg h1, if_neg h2, if_neg h3, if_neg h4, if_neg h5, if_pos h6] at hx
    subst hx
    exact ⟨_, rfl, HCN.out.below BB.out, BB.out, ⟨fun e => absurd (h6.symm.trans e) (by decide), fun _ => rfl⟩⟩
  go_wp2_with (first | (refine wpList_ld_kind rfl rfl rfl HO.out ?_) | (refine wpList_load_op rfl (.tmp 3) rfl kb rfl _ _ HK.out ?_) | (refine wpList_st_op rfl rfl rfl rfl ⟨_,_,_,rfl⟩ HZ.out ?_; intro W' hk' hf'; replace HZ := hid hk'; replace BB := hid (below_fr BB.out hf' hrB); clear hk' hf') | fail)
  refine bodyPost_ret (results_cell_row rfl _ _ r 77 _ (0, 0) _ rfl HZ.out Tryz.underlying77 rfl (by kernel_rfl)) rfl ?_
  have hx := HX.out
  unfold keptO at hx
  rw [if_neg h1, if_neg h2, if_neg h3, if_neg h4, if_neg h5, if_neg h6] at hx
  subst hx
  exact ⟨_, rfl, HCN.out.below BB.out, BB.out, ⟨fun e => absurd e h4, fun _ => rfl⟩⟩
/-- The slice of its cuts. -/
def keptV (o : Opn) (v : Value) : Value := if o.k = 4 then v else .slice none 0 0
theorem kept_cs {w : World} {o : Opn} {v : Value} (h : Cs w v o.cuts) : Cs w (keptV o v) (keptO o).cuts := by
  unfold keptV
  by_cases h4 : o.k = 4
  · rw [if_pos h4]
    have e : (keptO o).cuts = o.cuts := by unfold keptO; simp [h4]
    rw [e]; exact h
  · rw [if_neg h4]
    have e : (keptO o).cuts = [] := by unfold keptO headO; simp only [if_neg h4]; repeat' split
                                       all_goals rfl
    rw [e]; exact Cs.nil w
theorem kept_any (o : Opn) (v : Value) (w : World) (hC : Cs w v o.cuts) : Calls Tryz.prog 79 #[opv o v] w fun e w' => e = .returned (opv (keptO o) (keptV o v)) ∧ Below w.heap.size w w' :=
  (kept_box _ o v rfl w hC).mono fun _ _ ⟨u, h1, _, h3, h4, h5⟩ => by
    refine ⟨?_, h3⟩
    rw [h1]
    unfold keptV
    by_cases h : o.k = 4
    · rw [if_pos h, h4 h]
    · rw [if_neg h, h5 h]

end Go.Proofs.YteckjkblngmenaaGreatDoor
