/-
  What is read of bytes is what they were made of: of right ops, whatever the bounds (if they are wide enough); one right op's bytes are never the beginning of another's. Nothing of the program is walked here.
-/
import Derived.Test.YtmgemgkanlpnnaaDoorOMath
namespace Go.Proofs.YtmgemgkanlpnnaaDoor
open Go.RowKit
set_option linter.unusedVariables false
set_option maxRecDepth 100000

/-- A state of a cursor: bytes; nothing when it is lost. -/
def Vl (s : St) : Prop := K.Byt s.1 ∧ (s.2 = true → s.1 = [])
/-- Where the cursor isn't lost behind a step, these bytes were read. -/
def Sd (e : List Int) (s s' : St) : Prop := Vl s' ∧ (s'.2 = false → s.2 = false ∧ s.1 = e ++ s'.1)
theorem Sd.trans {e e' : List Int} {a b c : St} (h : Sd e a b) (k : Sd e' b c) : Sd (e ++ e') a c := by
  refine ⟨k.1, fun hc => ?_⟩
  obtain ⟨h1, h2⟩ := k.2 hc
  obtain ⟨h3, h4⟩ := h.2 h1
  exact ⟨h3, by rw [h4, h2, List.append_assoc]⟩
theorem Sd.refl {s : St} (h : Vl s) : Sd [] s s := ⟨h, fun hc => ⟨hc, rfl⟩⟩

theorem first_of_fo {xs : List Int} (h : M.fo xs = true) : M.first xs = some (M.fn xs, M.fc xs) := by
  unfold M.fo at h
  obtain ⟨⟨n, k⟩, hnk⟩ := Option.isSome_iff_exists.1 h
  unfold M.fn M.fc
  rw [hnk]
theorem numOk_fo {m : Int} {xs : List Int} (h : M.numOk m xs = true) : M.fo xs = true ∧ M.fn xs ≤ m := by
  unfold M.numOk at h
  simpa using h
theorem rn_val {m : Int} {s : St} (h : K.Byt s.1) : 0 ≤ (rn m s).1 ∧ (rn m s).1 < 562949953421312 ∧ (0 ≤ m → (rn m s).1 ≤ m) := by
  unfold rn M.numV
  dsimp only
  split
  · rename_i hok
    have h1 := numOk_fo hok
    have := M.enc_first_eq h (first_of_fo h1.1)
    exact ⟨this.1, this.2.1, fun _ => h1.2⟩
  · exact ⟨Int.le_refl _, by decide, fun h => h⟩
theorem rn_vl {m : Int} {s : St} (h : Vl s) : Vl (rn m s).2 := by
  obtain ⟨xs, l⟩ := s
  unfold rn
  refine ⟨?_, ?_⟩
  · intro x hx
    unfold M.numS at hx
    dsimp only at hx
    split at hx
    · exact h.1 x (List.mem_of_mem_drop hx)
    · cases hx
  · dsimp only
    unfold M.numL M.numS
    by_cases hok : M.numOk m xs = true
    · rw [if_pos hok, if_pos hok]
      intro hl
      rw [show xs = [] from h.2 hl]; simp
    · rw [if_neg hok, if_neg hok]
      intro _; rfl
theorem rn_sound (m : Int) {s : St} (h : Vl s) : Sd (M.enc (rn m s).1) s (rn m s).2 := by
  refine ⟨rn_vl h, ?_⟩
  obtain ⟨xs, l⟩ := s
  unfold rn
  intro hl
  dsimp only at hl ⊢
  unfold M.numL at hl
  by_cases hok : M.numOk m xs = true
  · rw [if_pos hok] at hl
    refine ⟨hl, ?_⟩
    unfold M.numV M.numS
    rw [if_pos hok, if_pos hok]
    have := M.enc_first_eq h.1 (first_of_fo (numOk_fo hok).1)
    rw [this.2.2.2.1, List.take_append_drop]
  · rw [if_neg hok] at hl; cases hl
theorem rn_full {m n : Int} (h0 : 0 ≤ n) (hm : n ≤ m) (hn : n < 562949953421312) (r : List Int) : rn m (M.enc n ++ r, false) = (n, (r, false)) := by
  have hf := M.first_enc h0 hn r
  have e1 : M.fn (M.enc n ++ r) = n := by unfold M.fn; rw [hf]
  have e2 : M.fc (M.enc n ++ r) = M.sz n := by unfold M.fc; rw [hf]
  have hok : M.numOk m (M.enc n ++ r) = true := by
    unfold M.numOk M.fo
    rw [hf, e1]
    simpa using hm
  unfold rn M.numV M.numS M.numL
  dsimp only
  rw [if_pos hok, if_pos hok, if_pos hok, e1, e2, ← M.enc_length, List.drop_left]

theorem rt_text {m : Int} {s : St} : (rt m s).2 = (M.takeS (rn m s).1 (rn m s).2.1, M.takeL (rn m s).1 (rn m s).2.1 (rn m s).2.2) ∧ (rt m s).1 = M.str (M.takeV (rn m s).1 (rn m s).2.1) := ⟨rfl, rfl⟩
theorem takeV_byt {n : Int} {xs : List Int} (h : K.Byt xs) : K.Byt (M.takeV n xs) := by
  intro x hx
  unfold M.takeV at hx
  split at hx
  · exact h x (List.mem_of_mem_take hx)
  · cases hx
theorem ofStr_tx (s : ByteArray) : M.ofStr s = tx s := rfl
theorem rt_sound (m : Int) {s : St} (h : Vl s) : Sd (M.encText (rt m s).1) s (rt m s).2 := by
  have h1 := rn_sound m h
  have hv := rn_val (m := m) h.1
  rw [rt_text.1, rt_text.2]
  generalize rn m s = p at h1 hv ⊢
  obtain ⟨n, xs, l⟩ := p
  dsimp only at h1 hv ⊢
  refine ⟨⟨?_, ?_⟩, ?_⟩
  · intro x hx
    unfold M.takeS at hx
    dsimp only at hx
    split at hx
    · exact h1.1.1 x (List.mem_of_mem_drop hx)
    · cases hx
  · dsimp only
    unfold M.takeL M.takeS
    by_cases hok : M.takeOk n xs = true
    · rw [if_pos hok, if_pos hok]
      intro hl
      rw [show xs = [] from h1.1.2 hl]; simp
    · rw [if_neg hok, if_neg hok]
      intro _; rfl
  · intro hl
    dsimp only at hl ⊢
    unfold M.takeL at hl
    by_cases hok : M.takeOk n xs = true
    · rw [if_pos hok] at hl
      obtain ⟨h2, h3⟩ := h1.2 hl
      refine ⟨h2, ?_⟩
      have ht : 0 ≤ n ∧ n ≤ xs.length := by unfold M.takeOk at hok; simpa using hok
      unfold M.takeV M.takeS M.encText
      rw [if_pos hok, if_pos hok, ofStr_tx]
      have hb : K.Byt (xs.take n.toNat) := fun x hx => h1.1.1 x (List.mem_of_mem_take hx)
      rw [tx_str hb, size_str hb, List.length_take, Nat.min_eq_left (by omega), Int.toNat_of_nonneg ht.1, List.append_assoc, List.take_append_drop]
      exact h3
    · rw [if_neg hok] at hl; cases hl
theorem rt_full {m : Int} {s : ByteArray} (hm : (s.size : Int) ≤ m) (hn : (s.size : Int) < 562949953421312) (r : List Int) : rt m (M.encText s ++ r, false) = (s, (r, false)) := by
  have h1 := rn_full (m := m) (n := s.size) (by omega) hm hn (M.ofStr s ++ r)
  unfold M.encText
  rw [List.append_assoc]
  have e := rt_text (m := m) (s := (M.enc s.size ++ (M.ofStr s ++ r), false))
  rw [h1] at e
  dsimp only at e
  have hok : M.takeOk (s.size : Int) (M.ofStr s ++ r) = true := by
    unfold M.takeOk
    rw [List.length_append, M.ofStr_length]
    simp
    omega
  unfold M.takeS M.takeL M.takeV at e
  rw [if_pos hok, if_pos hok, if_pos hok, Int.toNat_natCast, List.drop_left' (M.ofStr_length s), List.take_left' (M.ofStr_length s), M.str_ofStr] at e
  exact Prod.ext e.2 e.1

/-- A cut, cuts. -/
theorem rcut_sound (B : Bnd) {s : St} (h : Vl s) : Sd (enC (rcut B s).1) s (rcut B s).2 := by
  unfold enC rcut
  have h1 := rn_sound B.r h
  have h2 := rn_sound B.n h1.1
  have h3 := rn_sound B.ft h2.1
  exact ((h1.trans h2).trans h3).trans (rn_sound B.ft h3.1)
theorem rcuts_sound (B : Bnd) (j : Nat) {s : St} (h : Vl s) : Sd ((rcuts B j s).1.flatMap enC) s (rcuts B j s).2 ∧ (rcuts B j s).1.length = j := by
  induction j with
  | zero => exact ⟨Sd.refl h, rfl⟩
  | succ j ih =>
    refine ⟨?_, by unfold rcuts; simp [ih.2]⟩
    unfold rcuts
    rw [List.flatMap_append]
    have := ih.1.trans (rcut_sound B ih.1.1)
    simpa using this
/-- The bounds let all through that right ops tell. -/
def Bnd.ok (B : Bnd) : Prop := 6 ≤ B.k ∧ 1099511627776 ≤ B.t ∧ 15 ≤ B.r ∧ 1048576 ≤ B.n ∧ 63 ≤ B.i ∧ 32 ≤ B.key ∧ 64 ≤ B.text ∧ 64 ≤ B.ft
theorem rcut_full {B : Bnd} (hB : B.ok) {c : Ct} (hc : rct c = true) (r : List Int) : rcut B (enC c ++ r, false) = (c, (r, false)) := by
  obtain ⟨_, _, h1, h2, _, _, _, h3⟩ := hB
  simp [rct, ro] at hc
  unfold enC rcut
  simp only [List.append_assoc]
  rw [rn_full (by omega) (by omega) (by omega)]
  dsimp only
  rw [rn_full (by omega) (by omega) (by omega)]
  dsimp only
  rw [rn_full (by omega) (by omega) (by omega)]
  dsimp only
  rw [rn_full (by omega) (by omega) (by omega)]
theorem rcuts_full {B : Bnd} (hB : B.ok) : ∀ (j : Nat) (l : List Ct) (r : List Int), l.length = j → (∀ c ∈ l, rct c = true) → rcuts B j (l.flatMap enC ++ r, false) = (l, (r, false)) := by
  intro j
  induction j with
  | zero =>
    intro l r hl _
    obtain rfl := List.eq_nil_of_length_eq_zero hl
    rfl
  | succ j ih =>
    intro l r hl hc
    have hne : l ≠ [] := by intro h; subst h; simp at hl
    obtain ⟨l', c, rfl⟩ : ∃ l' c, l = l' ++ [c] := ⟨l.dropLast, l.getLast hne, (List.dropLast_concat_getLast hne).symm⟩
    have hl' : l'.length = j := by simpa using hl
    unfold rcuts
    rw [List.flatMap_append, List.append_assoc, ih l' _ hl' (fun c hc' => hc c (by simp [hc']))]
    simp only [List.flatMap_cons, List.flatMap_nil, List.append_nil]
    rw [rcut_full hB (hc c (by simp))]

theorem ro_bounds {r n : Int} (h : ro r n = true) : 0 ≤ r ∧ r < 16 ∧ 1 ≤ n ∧ n ≤ 1048576 := by simpa [ro] using h
theorem rb_bounds {r n : Int} (h : rb r n = true) : 0 ≤ r ∧ r < 16 ∧ 0 ≤ n ∧ n ≤ 1048576 := by
  simp [rb] at h
  rcases h with h | h
  · omega
  · have := ro_bounds h; omega
theorem rc_bounds {r n i : Int} (h : rc r n i = true) : 0 ≤ r ∧ r < 16 ∧ 0 ≤ n ∧ n ≤ 1048576 ∧ 0 ≤ i ∧ i < 64 := by
  simp [rc] at h
  rcases h with h | ⟨h, h2⟩
  · omega
  · have := ro_bounds h; omega

/-- A field, copied. -/
def cpF (f : Nat) (q o : Opn) : Opn :=
  match f with
  | 0 => { o with br := q.br, bm := q.bm }
  | 1 => { o with pr := q.pr, pm := q.pm }
  | 2 => { o with key := q.key }
  | 3 => { o with sr := q.sr, sm := q.sm }
  | 4 => { o with lr := q.lr, lm := q.lm, li := q.li }
  | 5 => { o with gr := q.gr, gm := q.gm, gi := q.gi }
  | 6 => { o with text := q.text }
  | 7 => { o with cuts := q.cuts }
  | _ => { o with flag := q.flag }

theorem nine {f : Nat} (h : f ≤ 8) : f = 0 ∨ f = 1 ∨ f = 2 ∨ f = 3 ∨ f = 4 ∨ f = 5 ∨ f = 6 ∨ f = 7 ∨ f = 8 := by omega
theorem rdF_sound (B : Bnd) (f : Nat) (hf : f ≤ 8) (p : Opn × St) (h : Vl p.2) (hb : (rdF B f p).2.2 = false) : Sd (encF (rdF B f p).1 f) p.2 (rdF B f p).2 := by
  obtain ⟨o, s⟩ := p
  dsimp only at h
  have h1 := rn_sound B.r h
  have h2 := rn_sound B.n h1.1
  have h3 := rn_sound B.i h2.1
  rcases nine hf with rfl | rfl | rfl | rfl | rfl | rfl | rfl | rfl | rfl
  · exact h1.trans h2
  · exact h1.trans h2
  · exact rt_sound B.key h
  · exact h1.trans h2
  · exact (h1.trans h2).trans h3
  · exact (h1.trans h2).trans h3
  · exact rt_sound B.text h
  · have h4 := rn_sound 16 h
    have hv := rn_val (m := 16) h.1
    have h5 := rcuts_sound B (rn 16 s).1.toNat h4.1
    have := h4.trans h5.1
    simp only [encF, rdF]
    rw [h5.2, Int.toNat_of_nonneg hv.1]
    exact this
  · have h4 := rn_sound 1 h
    have hv := rn_val (m := 1) h.1
    simp only [encF, rdF]
    have e : (if ((rn 1 s).1 == 1) = true then (1 : Int) else 0) = (rn 1 s).1 := by
      by_cases hc : (rn 1 s).1 = 1
      · simp [hc]
      · simp [hc]; omega
    rw [e]
    exact h4
theorem rdF_vl (B : Bnd) (f : Nat) (hf : f ≤ 8) (p : Opn × St) (h : Vl p.2) : Vl (rdF B f p).2 := by
  obtain ⟨o, s⟩ := p
  dsimp only at h
  have h1 := rn_sound B.r h
  have h2 := rn_sound B.n h1.1
  have h3 := rn_sound B.i h2.1
  rcases nine hf with rfl | rfl | rfl | rfl | rfl | rfl | rfl | rfl | rfl
  · exact h2.1
  · exact h2.1
  · exact (rt_sound B.key h).1
  · exact h2.1
  · exact h3.1
  · exact h3.1
  · exact (rt_sound B.text h).1
  · exact (rcuts_sound B _ (rn_sound 16 h).1).1.1
  · exact (rn_sound 1 h).1
theorem rdF_other (B : Bnd) {f g : Nat} (hf : f ≤ 8) (hg : g ≤ 8) (hne : f ≠ g) (p : Opn × St) : encF (rdF B g p).1 f = encF p.1 f := by
  rcases nine hf with rfl | rfl | rfl | rfl | rfl | rfl | rfl | rfl | rfl <;> rcases nine hg with rfl | rfl | rfl | rfl | rfl | rfl | rfl | rfl | rfl <;> first | exact absurd rfl hne | simp only [encF, rdF]
theorem rdF_full {B : Bnd} (hB : B.ok) (f : Nat) (hf : f ≤ 8) (q o : Opn) (hq : rightF q f = true) (r : List Int) : rdF B f (o, (encF q f ++ r, false)) = (cpF f q o, (r, false)) := by
  have hB' := hB
  obtain ⟨b1, b2, b3, b4, b5, b6, b7, b8⟩ := hB
  rcases nine hf with rfl | rfl | rfl | rfl | rfl | rfl | rfl | rfl | rfl
  · have := ro_bounds hq
    simp only [rdF, encF, en2, cpF, List.append_assoc]
    rw [rn_full (by omega) (by omega) (by omega)]
    dsimp only
    rw [rn_full (by omega) (by omega) (by omega)]
  · have := rb_bounds hq
    simp only [rdF, encF, en2, cpF, List.append_assoc]
    rw [rn_full (by omega) (by omega) (by omega)]
    dsimp only
    rw [rn_full (by omega) (by omega) (by omega)]
  · have : q.key.size ≤ 32 := by
      simp [rightF, K.right, tx_length] at hq
      exact hq.2.1
    simp only [rdF, encF, cpF]
    rw [rt_full (by omega) (by omega)]
  · have := ro_bounds hq
    simp only [rdF, encF, en2, cpF, List.append_assoc]
    rw [rn_full (by omega) (by omega) (by omega)]
    dsimp only
    rw [rn_full (by omega) (by omega) (by omega)]
  · have := rc_bounds hq
    simp only [rdF, encF, en3, cpF, List.append_assoc]
    rw [rn_full (by omega) (by omega) (by omega)]
    dsimp only
    rw [rn_full (by omega) (by omega) (by omega)]
    dsimp only
    rw [rn_full (by omega) (by omega) (by omega)]
  · have := rc_bounds hq
    simp only [rdF, encF, en3, cpF, List.append_assoc]
    rw [rn_full (by omega) (by omega) (by omega)]
    dsimp only
    rw [rn_full (by omega) (by omega) (by omega)]
    dsimp only
    rw [rn_full (by omega) (by omega) (by omega)]
  · have : q.text.size ≤ 64 := by
      simp [rightF] at hq
      exact hq.2
    simp only [rdF, encF, cpF]
    rw [rt_full (by omega) (by omega)]
  · simp [rightF] at hq
    simp only [rdF, encF, cpF, List.append_assoc]
    rw [rn_full (by omega) (by omega) (by omega)]
    dsimp only
    rw [rcuts_full hB' _ q.cuts r (by simp) hq.2]
  · simp only [rdF, encF, cpF]
    rw [rn_full (by split <;> decide) (by split <;> decide) (by split <;> decide)]
    dsimp only
    cases q.flag <;> rfl

/-- All fields of a list, one behind the other. -/
theorem told_le (k : Int) : ∀ f ∈ told k, f ≤ 8 := by
  unfold told
  intro f
  repeat' split
  all_goals simp
  all_goals omega
theorem told_nodup (k : Int) : (told k).Nodup := by
  unfold told
  repeat' split
  all_goals decide
theorem fold_sound (B : Bnd) : ∀ (L : List Nat) (p : Opn × St), (∀ f ∈ L, f ≤ 8) → L.Nodup → Vl p.2 →
    Vl (L.foldl (fun p f => rdF B f p) p).2 ∧ (∀ g, g ≤ 8 → g ∉ L → encF (L.foldl (fun p f => rdF B f p) p).1 g = encF p.1 g) ∧
    Sd (L.flatMap (encF (L.foldl (fun p f => rdF B f p) p).1)) p.2 (L.foldl (fun p f => rdF B f p) p).2 := by
  intro L
  induction L with
  | nil => intro p _ _ h; exact ⟨h, fun _ _ _ => rfl, Sd.refl h⟩
  | cons f L ih =>
    intro p hL hN hv
    have hf := hL f (by simp)
    have hv' := rdF_vl B f hf p hv
    have hN' := List.nodup_cons.1 hN
    obtain ⟨i1, i2, i3⟩ := ih (rdF B f p) (fun g hg => hL g (by simp [hg])) hN'.2 hv'
    rw [List.foldl_cons]
    refine ⟨i1, fun g hg hn => ?_, ?_⟩
    · rw [i2 g hg (fun h => hn (by simp [h]))]
      exact rdF_other B hg hf (fun e => hn (by simp [e])) p
    · rw [List.flatMap_cons, i2 f hf hN'.1]
      refine ⟨i3.1, fun hl => ?_⟩
      obtain ⟨e1, e2⟩ := i3.2 hl
      exact ((rdF_sound B f hf p hv e1).trans i3).2 hl
theorem fold_full {B : Bnd} (hB : B.ok) (q : Opn) : ∀ (L : List Nat) (o : Opn) (r : List Int), (∀ f ∈ L, f ≤ 8) → (∀ f ∈ L, rightF q f = true) →
    L.foldl (fun p f => rdF B f p) (o, (L.flatMap (encF q) ++ r, false)) = (L.foldl (fun o f => cpF f q o) o, (r, false)) := by
  intro L
  induction L with
  | nil => intro o r _ _; rfl
  | cons f L ih =>
    intro o r hL hq
    rw [List.flatMap_cons, List.append_assoc, List.foldl_cons, rdF_full hB f (hL f (by simp)) q o (hq f (by simp))]
    exact ih _ r (fun g hg => hL g (by simp [hg])) (fun g hg => hq g (by simp [hg]))

theorem six {k : Int} (h : told k ≠ []) : k = 1 ∨ k = 2 ∨ k = 3 ∨ k = 4 ∨ k = 5 ∨ k = 6 := by
  unfold told at h
  by_cases h1 : k = 1; · exact .inl h1
  by_cases h2 : k = 2; · exact .inr (.inl h2)
  by_cases h3 : k = 3; · exact .inr (.inr (.inl h3))
  by_cases h4 : k = 4; · exact .inr (.inr (.inr (.inl h4)))
  by_cases h5 : k = 5; · exact .inr (.inr (.inr (.inr (.inl h5))))
  by_cases h6 : k = 6; · exact .inr (.inr (.inr (.inr (.inr h6))))
  simp [h1, h2, h3, h4, h5, h6] at h
theorem right_parts {o : Opn} (h : rightO o = true) : (ro o.ir o.im = true ∧ rs o.t o.ir = true ∧ told o.k ≠ []) ∧ ∀ f, f ≤ 8 → goodF o f = true := by
  unfold rightO at h
  simp only [Bool.and_eq_true, List.all_eq_true, List.mem_range, Bool.not_eq_true'] at h
  obtain ⟨⟨⟨h1, h2⟩, h3⟩, h4⟩ := h
  exact ⟨⟨h1, h2, by simpa using h4⟩, fun f hf => h3 f (by omega)⟩
theorem right_told {o : Opn} (h : rightO o = true) : ∀ f ∈ told o.k, rightF o f = true := fun f hf => by
  have := (right_parts h).2 f (told_le _ f hf)
  unfold goodF at this
  rwa [if_pos hf] at this
theorem right_not {o : Opn} (h : rightO o = true) {f : Nat} (h8 : f ≤ 8) (hf : f ∉ told o.k) : noughtF o f = true := by
  have := (right_parts h).2 f h8
  unfold goodF at this
  rwa [if_neg hf] at this
theorem ba_nil {s : ByteArray} (h : s.size = 0) : s = ⟨#[]⟩ := by
  obtain ⟨d⟩ := s
  have : d.size = 0 := h
  rw [Array.eq_empty_of_size_eq_zero this]
theorem told_cp {o : Opn} (h : rightO o = true) : (told o.k).foldl (fun p f => cpF f o p) { Opn.zero with k := o.k, ir := o.ir, im := o.im, t := o.t } = o := by
  have hk := six (right_parts h).1.2.2
  have hn := fun f (h8 : f ≤ 8) (hf : f ∉ told o.k) => right_not h h8 hf
  clear h
  obtain ⟨k, ir, im, t, br, bm, pr, pm, key, sr, sm, lr, lm, li, gr, gm, gi, text, cuts, flag⟩ := o
  dsimp only at hk hn ⊢
  rcases hk with rfl | rfl | rfl | rfl | rfl | rfl
  all_goals
    have n0 := hn 0 (by decide)
    have n1 := hn 1 (by decide)
    have n2 := hn 2 (by decide)
    have n3 := hn 3 (by decide)
    have n4 := hn 4 (by decide)
    have n5 := hn 5 (by decide)
    have n6 := hn 6 (by decide)
    have n7 := hn 7 (by decide)
    have n8 := hn 8 (by decide)
    clear hn
    simp [told, noughtF] at n0 n1 n2 n3 n4 n5 n6 n7 n8
    simp [told, cpF, Opn.zero, *]
    try rfl

/-- The whole of it: a right op, whatever follows. -/
theorem rdO_full {B : Bnd} (hB : B.ok) {o : Opn} (h : rightO o = true) (r : List Int) : rdO B (encO o ++ r) = (o, (r, false)) := by
  have hB' := hB
  obtain ⟨b1, b2, b3, b4, b5, b6, b7, b8⟩ := hB
  have hp := (right_parts h).1
  have h1 := ro_bounds hp.1
  have h2 : 0 ≤ o.ir ∧ o.ir < 16 ∧ 1 ≤ o.t ∧ o.t ≤ 1099511627776 := by simpa [rs] using hp.2.1
  have h3 := six hp.2.2
  have e : rdH B (encO o ++ r) = ({ Opn.zero with k := o.k, ir := o.ir, im := o.im, t := o.t }, ((told o.k).flatMap (encF o) ++ r, false)) := by
    unfold rdH encO
    simp only [List.append_assoc]
    rw [rn_full (by omega) (by omega) (by omega)]
    dsimp only
    rw [rn_full (by omega) (by omega) (by omega)]
    dsimp only
    rw [rn_full (by omega) (by omega) (by omega)]
    dsimp only
    rw [rn_full (by omega) (by omega) (by omega)]
  unfold rdO
  rw [e]
  dsimp only
  rw [fold_full hB' o _ _ r (told_le _) (right_told h), told_cp h]
theorem decO_full {B : Bnd} (hB : B.ok) {o : Opn} (h : rightO o = true) : decO B (encO o) = (o, true) := by
  have := rdO_full hB h []
  rw [List.append_nil] at this
  unfold decO decB
  rw [this]
  simp [h]
theorem cp_head (B : Bnd) : ∀ (L : List Nat) (p : Opn × St), (∀ f ∈ L, f ≤ 8) → (L.foldl (fun p f => rdF B f p) p).1.k = p.1.k ∧ (L.foldl (fun p f => rdF B f p) p).1.ir = p.1.ir ∧ (L.foldl (fun p f => rdF B f p) p).1.im = p.1.im ∧ (L.foldl (fun p f => rdF B f p) p).1.t = p.1.t := by
  intro L
  induction L with
  | nil => intro p _; exact ⟨rfl, rfl, rfl, rfl⟩
  | cons f L ih =>
    intro p hL
    obtain ⟨h1, h2, h3, h4⟩ := ih (rdF B f p) (fun g hg => hL g (by simp [hg]))
    rw [List.foldl_cons, h1, h2, h3, h4]
    rcases nine (hL f (by simp)) with rfl | rfl | rfl | rfl | rfl | rfl | rfl | rfl | rfl <;> exact ⟨rfl, rfl, rfl, rfl⟩
theorem decO_sound (B : Bnd) {b : List Int} (hb : K.Byt b) (h : (decO B b).2 = true) : rightO (decO B b).1 = true ∧ encO (decO B b).1 = b := by
  unfold decO at h ⊢
  by_cases hd : decB (rdO B b) = true
  · rw [if_pos hd] at h ⊢
    dsimp only
    unfold decB at hd
    simp only [Bool.and_eq_true, Bool.not_eq_true', List.isEmpty_iff] at hd
    obtain ⟨⟨h1, h2⟩, h3⟩ := hd
    refine ⟨h3, ?_⟩
    have hv : Vl ((b, false) : St) := ⟨hb, fun h => by cases h⟩
    have s1 := rn_sound B.k hv
    have s2 := rn_sound B.r s1.1
    have s3 := rn_sound B.n s2.1
    have s4 := rn_sound B.t s3.1
    have hs := ((s1.trans s2).trans s3).trans s4
    have hf := fold_sound B (told (rdH B b).1.k) (rdH B b) (told_le _) (told_nodup _) hs.1
    have hc := cp_head B (told (rdH B b).1.k) (rdH B b) (told_le _)
    have := (hs.trans hf.2.2).2 h1
    unfold encO
    rw [show (rdO B b).1.k = (rdH B b).1.k from hc.1, show (rdO B b).1.ir = (rdH B b).1.ir from hc.2.1, show (rdO B b).1.im = (rdH B b).1.im from hc.2.2.1, show (rdO B b).1.t = (rdH B b).1.t from hc.2.2.2]
    have e := this.2
    dsimp only at e
    rw [show ((told (rdH B b).1.k).foldl (fun p f => rdF B f p) (rdH B b)).2.1 = [] from h2, List.append_nil] at e
    exact e.symm
  · rw [if_neg hd] at h; cases h
theorem decO_same {B B' : Bnd} (hB : B.ok) (hB' : B'.ok) {b : List Int} (hb : K.Byt b) : decO B b = decO B' b := by
  cases h : (decO B b).2 with
  | true =>
    obtain ⟨h1, h2⟩ := decO_sound B hb h
    have := decO_full hB' h1
    rw [h2] at this
    rw [this]
    exact Prod.ext rfl h
  | false =>
    cases h' : (decO B' b).2 with
    | true =>
      obtain ⟨h1, h2⟩ := decO_sound B' hb h'
      have := decO_full hB h1
      rw [h2] at this
      rw [this] at h
      cases h
    | false =>
      unfold decO at h h' ⊢
      split at h
      · cases h
      · split at h'
        · cases h'
        · rename_i x y
          rw [if_neg x, if_neg y]
/-- The program's bounds, the reference's. -/
def Bnd.own : Bnd := ⟨6, 1099511627776, 15, 1048576, 63, 32, 64, 64⟩
def Bnd.ref : Bnd := ⟨281474976710656, 281474976710656, 281474976710656, 281474976710656, 281474976710656, 281474976710656, 281474976710656, 281474976710656⟩
theorem own_ok : Bnd.own.ok := by unfold Bnd.ok Bnd.own; decide
theorem ref_ok : Bnd.ref.ok := by unfold Bnd.ok Bnd.ref; decide
/-- No right op's bytes are the beginning of another's. -/
theorem encO_front {o p : Opn} (ho : rightO o = true) (hp : rightO p = true) {r s : List Int} (h : encO o ++ r = encO p ++ s) : o = p ∧ r = s := by
  have h1 := rdO_full own_ok ho r
  have h2 := rdO_full own_ok hp s
  rw [h, h2] at h1
  simp only [Prod.mk.injEq, and_true] at h1
  exact ⟨h1.1.symm, h1.2.symm⟩
theorem encO_inj {o p : Opn} (ho : rightO o = true) (hp : rightO p = true) (h : encO o = encO p) : o = p := (encO_front (r := []) (s := []) ho hp (by rw [h])).1

end Go.Proofs.YtmgemgkanlpnnaaDoor
