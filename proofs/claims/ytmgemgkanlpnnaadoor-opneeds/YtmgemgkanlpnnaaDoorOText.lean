/-
  What a writer's methods text, name, char, flag and cuts write is proved here, for all right numbers and texts.
-/
import Derived.Test.YtmgemgkanlpnnaaDoorOWrite
import Derived.Deep.RegionLaw
namespace Go.Proofs.YtmgemgkanlpnnaaDoor
open Go.RowKit
set_option linter.unusedVariables false
set_option maxRecDepth 100000

/-- An append of bytes, as one step of a region whose order is drawn. -/
theorem step_append_bs {w : World} {ops : Array Oper} {o : Oper} {a : Act} {K : Act → World → Prop} {Q : Exit → Act → World → Prop} {E : Prop} (hgd : o.guard = none) (s x : Operand)
    (ho : o.op = .call { callee := .builtin .append, args := #[s, x], argTypes := #[22, 22] })
    (base : Nat) (v : Value) (n : Nat) (xs : List Int) (hs : a.eval s = v) (hown : w.ownsRow base 5 1 v n (cs xs)) (u : Value) (ys : List Int) (hx : a.eval x = u) (hu : Bs w u ys)
    (hb : n + ys.length ≤ 140737488355328) (hbase : base ≤ w.heap.size)
    (h : ∀ v' w', w'.ownsRow base 5 1 v' (n + ys.length) (cs (xs ++ ys)) → w.grownBy w' v.ownBlock → (v'.ownBlock = v.ownBlock ∨ v'.ownBlock = some w.heap.size) → K (a.put o.dst v') w') :
    if Region.wanted o (yielded ops a.tmps) = true then Oper.wp Tryd.prog o a w K Q else E := by
  have hw : Region.wanted o (yielded ops a.tmps) = true := by simp [Region.wanted, hgd]
  rw [if_pos hw]
  obtain ⟨i0, hi, hz0, hz1, hz2⟩ := info_parts info_u8
  have hf : ∃ A c, u = .slice A ys.length c := by
    obtain ⟨A, c, e, _⟩ := hu
    exact ⟨A, c, e⟩
  obtain ⟨A, c, rfl⟩ := hf
  cases A with
  | none =>
    obtain ⟨rfl, _, rfl⟩ := hu.none_nil
    have hrun := run_append_owned_none (P := Tryd.prog) (w := w) base 22 o.type 5 i0 1 Tryd.underlying22 hi v n (cs xs) hown
    unfold Oper.wp
    simp [execOp, ho, resolve, invoke, builtin, hs, hx, hrun, Result.andThen]
    exact h v w (by simpa using hown) (World.grownBy.rfl' _ _) (Or.inl rfl)
  | some A =>
    obtain ⟨v', w', hr, h2, h3, h4, h5⟩ := run_append_own_at (P := Tryd.prog) w base 22 o.type 5 i0 (.int .u8 0) 1 1 Tryd.underlying22 hi hz0 hz1 hz2 rfl (by decide) v n (cs xs) hown A ys.length c (cs ys) (by simp) (cells_at hu) (ints_oneCell .u8 ys) (by unfold maxLen; omega) (by omega) hbase
    unfold Oper.wp execOp
    simp only [ho, resolve, invoke, builtin, Sem.run_bind, Sem.run_pure, Result.andThen_ok, List.map_toArray, List.map_cons, List.map_nil, hs, hx, hr]
    exact h v' w' (by simpa using h2) h3 h5

set_option maxHeartbeats 2000000 in
theorem text_w (B b : Nat) (v : Value) (xs : List Int) (s : ByteArray) (w : World) (h : Wr B w b v xs) (hB : B ≤ w.heap.size) (hs : s.size ≤ 1099511627776) (hlen : xs.length ≤ 1099511627776) :
    Calls Tryd.prog 41 #[.pointer (some ⟨b, 0, none⟩), .string s] w fun e w' =>
      e = .returned (.tuple #[]) ∧ ∃ v', Wr B w' b v' (xs ++ M.encText s) ∧ Wx b v v' w w' := by
  have HW := hid h
  obtain ⟨hc, hfz, a, c, rfl, _⟩ := h.cell
  have hlx : xs.length + (M.encText s).length ≤ 140737488355328 := by
    rw [encText_length]
    have := (M.sz_pos s.size).2
    omega
  have HE := hid (encText_byte s (by omega))
  clear h
  go_enter Tryd.func41, Tryd.ntmps41
  go_wp2_with fail
  go_region_law (first
    | (go_simp; go_at_call 69; refine (puttext_bs s _ (by omega)).mono ?_; rintro e w2 ⟨u, rfl, hu, hb2⟩; have HW2 := hid (Wr.below (w := w.drew) (w' := w2) HW.out hb2); have HU := hid hu; have hc2 := HW2.out.cell.1; have HB2 := hid hb2)
    | (refine step_append_bs rfl _ _ rfl B _ _ xs rfl HW2.out.2.1 _ (M.encText s) rfl HU.out hlx (Nat.le_trans hB HB2.out.size) ?_; intro v3 w3 hown3 hg3 hv3; rw [← List.length_append] at hown3; have hp := HW2.out.put hown3 hg3 HE.out hv3; have HP := hid hp; obtain ⟨a3, c3, rfl, _⟩ := own_form hown3; simp only [List.length_append] at HP; have hc3 := hg3.cell HW2.out.cell.1 (Ne.symm (HW2.out.far HW2.out.1 (by decide))); have hfz3 : w3.frozen? ⟨b, 0, none⟩ = false := (World.frozen?_of_block (w := w2) (hg3.block b HW2.out.lt (Ne.symm (HW2.out.far HW2.out.1 (by decide))))).trans HW2.out.cell.2.1))
  all_goals
    go_wp2
    go_end0
    refine ⟨rfl, _, HP.out.1, ?_⟩
    exact Wx.trans (Wx.of_below (((Below.refl _ w).drew).trans HB2.out)) HP.out.2


/-- A list of numbers that was just laid. -/
theorem ints_new (w : World) (ns : List Int) : (w.alloc (.cells (ns.map (Value.int .i64)).toArray 3)).heap[w.heap.size]? = some (.cells (ns.map (Value.int .i64)).toArray 3 (0, 0)) := heap_alloc_new w _
/-- Numbers written off a list that was just laid. -/
theorem numbers_new (B b : Nat) (v : Value) (xs ns : List Int) (w : World) (h : Wr B w b v xs) (hB : B ≤ w.heap.size) (hns : ∀ n ∈ ns, Num49 n) (hlen : xs.length ≤ 1099511627776) (hpos : 0 < ns.length) (h9 : ns.length ≤ 9) :
    Calls Tryd.prog 40 #[.pointer (some ⟨b, 0, none⟩), .slice (some ⟨w.heap.size, 0, none⟩) ns.length ns.length] (w.alloc (.cells (ns.map (Value.int .i64)).toArray 3)) fun e w' =>
      e = .returned (.tuple #[]) ∧ ∃ v', Wr B w' b v' (xs ++ ns.flatMap M.enc) ∧ Wx b v v' w w' :=
  (numbers_any B b v xs ns w.heap.size _ (h.below (ba _ _)) (Nat.le_trans hB (ba w _).size) hns (by omega) hpos (ints_new w ns)).mono fun _ _ ⟨he, v', h1, h2⟩ => ⟨he, v', h1, (Wx.of_below (ba _ _)).trans h2⟩

theorem name_w (B b : Nat) (v : Value) (xs : List Int) (r n : Int) (w : World) (h : Wr B w b v xs) (hB : B ≤ w.heap.size) (h1 : Num49 r) (h2 : Num49 n) (hlen : xs.length ≤ 1099511627776) :
    Calls Tryd.prog 72 #[.pointer (some ⟨b, 0, none⟩), idv r n] w fun e w' =>
      e = .returned (.tuple #[]) ∧ ∃ v', Wr B w' b v' (xs ++ en2 r n) ∧ Wx b v v' w w' := by
  have HX := hid (ba w (ido 25 r n))
  have HC := hid (numbers_new B b v xs [r, n] _ (h.below HX.out) (Nat.le_trans hB HX.out.size) (by intro x hx; simp at hx; rcases hx with rfl | rfl <;> assumption) hlen (by simp) (by simp))
  rw [show (w.alloc (ido 25 r n)).heap.size = w.heap.size + 1 by simp] at HC
  clear h
  go_enter Tryd.func72, Tryd.ntmps72
  go_wp2_with fail
  refine HC.out.mono ?_
  rintro e w1 ⟨rfl, v', hW, hx⟩
  have HW := hid hW
  have HY := hid hx
  clear hW hx
  go_wp2
  go_end0
  refine ⟨rfl, v', ?_, (Wx.of_below HX.out).trans HY.out⟩
  have := HW.out
  simpa [en2] using this

theorem char_w (B b : Nat) (v : Value) (xs : List Int) (r n i : Int) (w : World) (h : Wr B w b v xs) (hB : B ≤ w.heap.size) (h1 : Num49 r) (h2 : Num49 n) (h3 : Num49 i) (hlen : xs.length ≤ 1099511627776) :
    Calls Tryd.prog 73 #[.pointer (some ⟨b, 0, none⟩), .agg #[.int .i64 r, .int .i64 n, .int .i64 i]] w fun e w' =>
      e = .returned (.tuple #[]) ∧ ∃ v', Wr B w' b v' (xs ++ en3 r n i) ∧ Wx b v v' w w' := by
  have HX := hid (ba w (.cells #[.int .i64 r, .int .i64 n, .int .i64 i] 27))
  have HC := hid (numbers_new B b v xs [r, n, i] _ (h.below HX.out) (Nat.le_trans hB HX.out.size) (by intro x hx; simp at hx; rcases hx with rfl | rfl | rfl <;> assumption) hlen (by simp) (by simp))
  rw [show (w.alloc (.cells #[.int .i64 r, .int .i64 n, .int .i64 i] 27)).heap.size = w.heap.size + 1 by simp] at HC
  clear h
  go_enter Tryd.func73, Tryd.ntmps73
  go_wp2_with fail
  refine HC.out.mono ?_
  rintro e w1 ⟨rfl, v', hW, hx⟩
  have HW := hid hW
  have HY := hid hx
  clear hW hx
  go_wp2
  go_end0
  refine ⟨rfl, v', ?_, (Wx.of_below HX.out).trans HY.out⟩
  have := HW.out
  simpa [en3] using this

theorem flag_w (B b : Nat) (v : Value) (xs : List Int) (f : Bool) (w : World) (h : Wr B w b v xs) (hB : B ≤ w.heap.size) (hlen : xs.length ≤ 1099511627776) :
    Calls Tryd.prog 75 #[.pointer (some ⟨b, 0, none⟩), .bool f] w fun e w' =>
      e = .returned (.tuple #[]) ∧ ∃ v', Wr B w' b v' (xs ++ M.enc (if f then 1 else 0)) ∧ Wx b v v' w w' := by
  cases f
  · have HC := hid (numbers_new B b v xs [0] _ h hB (by intro x hx; simp at hx; subst hx; unfold Num49; decide) hlen (by decide) (by decide))
    clear h
    go_enter Tryd.func75, Tryd.ntmps75
    go_wp2_with fail
    refine HC.out.mono ?_
    rintro e w1 ⟨rfl, v', hW, hx⟩
    have HW := hid hW
    have HY := hid hx
    clear hW hx
    go_wp2
    go_end0
    refine ⟨rfl, v', ?_, HY.out⟩
    have := HW.out
    simpa using this
  · have HC := hid (numbers_new B b v xs [1] _ h hB (by intro x hx; simp at hx; subst hx; unfold Num49; decide) hlen (by decide) (by decide))
    clear h
    go_enter Tryd.func75, Tryd.ntmps75
    go_wp2_with fail
    refine HC.out.mono ?_
    rintro e w1 ⟨rfl, v', hW, hx⟩
    have HW := hid hW
    have HY := hid hx
    clear hW hx
    go_wp2
    go_end0
    refine ⟨rfl, v', ?_, HY.out⟩
    have := HW.out
    simpa using this

end Go.Proofs.YtmgemgkanlpnnaaDoor
