/-
  Parts of the proof, one behind the other; what each proves stands at its head.
-/
import Derived.Test.YteckjkblngmenaaGreatDoorPart10
import Derived.Test.YteckjkblngmenaaGreatDoorPart13
import Derived.Test.YteckjkblngmenaaGreatDoorRows
import Derived.Test.YteckjkblngmenaaGreatDoorPart1
import Derived.Test.YteckjkblngmenaaGreatDoorPart9
import Derived.Deep.QuietTactic
import Derived.BigQuiet
import Derived.Deep.RegionWith
import Derived.Shelf.LaysM
import Derived.Shelf.Strconv.Clone
import Derived.Test.YteckjkblngmenaaGreatDoorProg

/-
  A log's bytes, its ends, and how they hang together, in plain mathematics.
-/
namespace Go.Proofs.YteckjkblngmenaaGreatDoor
open Go.RowKit
set_option linter.unusedVariables false
set_option maxRecDepth 100000

/-- A log's bytes. -/
def lby (r : Int) (Fs : List (List Opn)) : List Int := C.cat (fb0 r :: Fs.map encA)
def endsFrom (b o : Nat) : List (List Opn) → List (Nat × Nat)
  | [] => []
  | f :: fs => (b + (8 + (encA f).length), o + f.length) :: endsFrom (b + (8 + (encA f).length)) (o + f.length) fs
def endsF (Fs : List (List Opn)) : List (Nat × Nat) := endsFrom 10 0 Fs
/-- How many bytes frames take. -/
def szF (Fs : List (List Opn)) : Nat := (C.cat (Fs.map encA)).length
theorem szF_nil : szF [] = 0 := rfl
theorem szF_cons (f : List Opn) (Fs : List (List Opn)) : szF (f :: Fs) = 8 + (encA f).length + szF Fs := by
  unfold szF
  rw [List.map_cons, C.cat_cons, List.length_append, C.frame_length]
theorem szF_append (Fs Gs : List (List Opn)) : szF (Fs ++ Gs) = szF Fs + szF Gs := by
  unfold szF
  rw [List.map_append, C.cat_append, List.length_append]
theorem szF_one (f : List Opn) : szF [f] = 8 + (encA f).length := by rw [szF_cons, szF_nil]; rfl
theorem lby_cons {r : Int} (Fs : List (List Opn)) : lby r Fs = C.frame (fb0 r) ++ C.cat (Fs.map encA) := by unfold lby; rw [C.cat_cons]
theorem lby_snoc (r : Int) (Fs : List (List Opn)) (f : List Opn) : lby r (Fs ++ [f]) = lby r Fs ++ C.frame (encA f) := by
  rw [lby_cons, lby_cons, List.map_append, List.map_cons, List.map_nil, C.cat_snoc, List.append_assoc]
theorem lby_len {r : Int} (h0 : 0 ≤ r) (h1 : r ≤ 15) (Fs : List (List Opn)) : (lby r Fs).length = 10 + szF Fs := by
  rw [lby_cons, List.length_append, C.frame_length, fb0_len h0 h1]
  rfl
theorem endsFrom_append (Fs Gs : List (List Opn)) : ∀ b o, endsFrom b o (Fs ++ Gs) = endsFrom b o Fs ++ endsFrom (b + szF Fs) (o + Fs.flatten.length) Gs := by
  induction Fs with
  | nil => intro b o; rfl
  | cons f Fs ih =>
    intro b o
    rw [List.cons_append, endsFrom, endsFrom, ih, szF_cons, List.cons_append]
    simp only [List.flatten_cons, List.length_append]
    rw [show b + (8 + (encA f).length) + szF Fs = b + (8 + (encA f).length + szF Fs) by omega, show o + f.length + Fs.flatten.length = o + (f.length + Fs.flatten.length) by omega]
theorem endsF_snoc (Fs : List (List Opn)) (f : List Opn) : endsF (Fs ++ [f]) = endsF Fs ++ [(10 + szF (Fs ++ [f]), (Fs ++ [f]).flatten.length)] := by
  unfold endsF
  rw [endsFrom_append, szF_append, szF_one, List.flatten_append]
  simp only [endsFrom, List.flatten_cons, List.flatten_nil, List.append_nil, List.length_append, Nat.zero_add]
  rw [show 10 + szF Fs + (8 + (encA f).length) = 10 + (szF Fs + (8 + (encA f).length)) by omega]
theorem endsFrom_len (Fs : List (List Opn)) : ∀ b o, (endsFrom b o Fs).length = Fs.length := by
  induction Fs with
  | nil => intro b o; rfl
  | cons f Fs ih => intro b o; rw [endsFrom, List.length_cons, ih, List.length_cons]
theorem endsF_len (Fs : List (List Opn)) : (endsF Fs).length = Fs.length := endsFrom_len Fs 10 0
theorem endsFrom_mem (Fs : List (List Opn)) : ∀ b o p, p ∈ endsFrom b o Fs → b < p.1 ∧ p.1 ≤ b + szF Fs := by
  induction Fs with
  | nil => intro b o p hp; cases hp
  | cons f Fs ih =>
    intro b o p hp
    rw [szF_cons]
    rcases List.mem_cons.1 hp with rfl | hp
    · exact ⟨by show b < b + (8 + (encA f).length); omega, by show b + (8 + (encA f).length) ≤ _; omega⟩
    · have := ih _ _ p hp
      omega
theorem endsF_mem {Fs : List (List Opn)} {p : Nat × Nat} (h : p ∈ endsF Fs) : p.1 ≤ 10 + szF Fs := (endsFrom_mem Fs 10 0 p h).2
theorem endsFrom_sorted (Fs : List (List Opn)) : ∀ b o, (endsFrom b o Fs).Pairwise (fun p q => p.1 ≤ q.1) := by
  induction Fs with
  | nil => intro b o; exact List.Pairwise.nil
  | cons f Fs ih =>
    intro b o
    rw [endsFrom]
    exact List.Pairwise.cons (fun q hq => Nat.le_of_lt (endsFrom_mem Fs _ _ q hq).1) (ih _ _)
theorem endsF_sorted (Fs : List (List Opn)) : (endsF Fs).Pairwise (fun p q => p.1 ≤ q.1) := endsFrom_sorted Fs 10 0
/-- The ops of the first so many frames. -/
theorem opsAt_from (Fs : List (List Opn)) : ∀ b o k, k < Fs.length → ((endsFrom b o Fs).getD k (0, 0)).2 = o + (Fs.take (k + 1)).flatten.length := by
  induction Fs with
  | nil => intro b o k hk; cases hk
  | cons f Fs ih =>
    intro b o k hk
    rw [endsFrom]
    cases k with
    | zero => simp
    | succ k =>
      have := ih (b + (8 + (encA f).length)) (o + f.length) k (by simpa using hk)
      rw [List.getD_cons_succ, this]
      simp [Nat.add_assoc]
theorem opsAt_ends (Fs : List (List Opn)) (k : Nat) (hk : k ≤ Fs.length) : opsAt (endsF Fs) k = (Fs.take k).flatten.length := by
  cases k with
  | zero => rfl
  | succ k =>
    have := opsAt_from Fs 10 0 k hk
    show ((endsFrom 10 0 Fs).getD k (0, 0)).2 = _
    omega
theorem opsAt_all (Fs : List (List Opn)) : opsAt (endsF Fs) (endsF Fs).length = Fs.flatten.length := by rw [endsF_len, opsAt_ends Fs _ (Nat.le_refl _), List.take_length]
theorem inF_append (es es' : List (Nat × Nat)) (s : Int) : inF (es ++ es') s = inF es s + inF es' s := List.countP_append
/-- How many frames stand within so many bytes. -/
theorem inF_ends (Fs : List (List Opn)) (k s : Nat) (hk : k ≤ Fs.length) (h1 : 10 + szF (Fs.take k) ≤ s) (h2 : k < Fs.length → s < 10 + szF (Fs.take (k + 1))) : inF (endsF Fs) (s : Nat) = k := by
  have e : endsF Fs = endsF (Fs.take k) ++ endsFrom (10 + szF (Fs.take k)) (0 + (Fs.take k).flatten.length) (Fs.drop k) := by
    unfold endsF
    rw [← endsFrom_append, List.take_append_drop]
  rw [e, inF_append, inF_all (fun p hp => Nat.le_trans (endsF_mem hp) h1), endsF_len, List.length_take]
  have e2 : inF (endsFrom (10 + szF (Fs.take k)) (0 + (Fs.take k).flatten.length) (Fs.drop k)) (s : Nat) = 0 := by
    unfold inF
    rw [List.countP_eq_zero]
    intro p hp
    by_cases hlt : k < Fs.length
    · rw [List.drop_eq_getElem_cons hlt, endsFrom] at hp
      have h3 := h2 hlt
      rw [List.take_succ_eq_append_getElem hlt, szF_append, szF_one] at h3
      have : 10 + szF (Fs.take k) + (8 + (encA Fs[k]).length) ≤ p.1 := by
        rcases List.mem_cons.1 hp with rfl | hp
        · exact Nat.le_refl _
        · exact Nat.le_of_lt (endsFrom_mem _ _ _ p hp).1
      simp
      omega
    · rw [List.drop_of_length_le (by omega)] at hp
      cases hp
  rw [e2]
  omega
/-- Where so many bytes cut. -/
theorem cut_at (Fs : List (List Opn)) : ∀ s, ∃ k, k ≤ Fs.length ∧ szF (Fs.take k) ≤ s ∧ (k < Fs.length → s < szF (Fs.take (k + 1))) := by
  induction Fs with
  | nil => intro s; exact ⟨0, Nat.le_refl _, Nat.zero_le _, fun h => by cases h⟩
  | cons f Fs ih =>
    intro s
    by_cases hs : s < 8 + (encA f).length
    · refine ⟨0, Nat.zero_le _, Nat.zero_le _, fun _ => ?_⟩
      rw [show (f :: Fs).take (0 + 1) = [f] from rfl, szF_one]
      exact hs
    · obtain ⟨k, h1, h2, h3⟩ := ih (s - (8 + (encA f).length))
      refine ⟨k + 1, by simpa using h1, ?_, fun hk => ?_⟩
      · rw [List.take_succ_cons, szF_cons]; omega
      · have := h3 (by simpa using hk)
        rw [List.take_succ_cons, szF_cons]
        omega
/-- Frames that a log may have. -/
def Good (Fs : List (List Opn)) : Prop := ∀ f ∈ Fs, f ≠ [] ∧ (∀ o ∈ f, rightO o = true) ∧ (encA f).length ≤ 65536
theorem Good.nil : Good [] := fun f hf => by cases hf
theorem Good.append {Fs Gs : List (List Opn)} (h : Good Fs) (k : Good Gs) : Good (Fs ++ Gs) := fun f hf => (List.mem_append.1 hf).elim (h f) (k f)
theorem Good.take {Fs : List (List Opn)} (h : Good Fs) (k : Nat) : Good (Fs.take k) := fun f hf => h f (List.mem_of_mem_take hf)
theorem Good.one {f : List Opn} (h : frE f = 0) : Good [f] := by
  intro g hg
  rw [List.mem_singleton.1 hg]
  unfold frE at h
  by_cases h1 : f.all rightO = false ∨ f = []
  · rw [if_pos h1] at h; cases h
  · rw [if_neg h1] at h
    by_cases h2 : 65536 < (encA f).length
    · rw [if_pos h2] at h; cases h
    · refine ⟨fun e => h1 (.inr e), ?_, by omega⟩
      have : f.all rightO = true := by
        cases hx : f.all rightO with
        | true => rfl
        | false => exact absurd (.inl hx) h1
      exact List.all_eq_true.1 this
theorem encT_pos (o : Opn) : 1 ≤ (encT o).length := by
  unfold encT
  rw [encText_length]
  have := (M.sz_pos ((M.str (encO o)).size : Int)).1
  omega
theorem encTs_pos (f : List Opn) : f.length ≤ (f.flatMap encT).length := by
  induction f with
  | nil => exact Nat.le_refl _
  | cons o f ih =>
    rw [List.flatMap_cons, List.length_append, List.length_cons]
    have := encT_pos o
    omega
theorem encA_pos (f : List Opn) : f.length + 1 ≤ (encA f).length := by
  unfold encA
  rw [List.length_append, M.enc_length]
  have := (M.sz_pos (f.length : Int)).1
  have := encTs_pos f
  omega
theorem szF_pos (Fs : List (List Opn)) : Fs.flatten.length + 9 * Fs.length ≤ szF Fs := by
  induction Fs with
  | nil => exact Nat.le_refl _
  | cons f Fs ih =>
    rw [szF_cons, List.flatten_cons, List.length_append, List.length_cons]
    have := encA_pos f
    omega
theorem encA_byt {f : List Opn} (h : ∀ o ∈ f, rightO o = true) (hl : f.length ≤ 1048576) : Byt (encA f) := by
  unfold encA
  refine Byt.append (M.enc_byte _ (by omega) (by omega)) (fun x hx => ?_)
  obtain ⟨o, ho, hx⟩ := List.mem_flatMap.1 hx
  refine encText_byte _ ?_ x hx
  have := congrArg List.length (tx_str (encO_byt (h o ho)))
  rw [tx_length] at this
  have := encO_len (h o ho)
  omega
theorem right_sizes {o : Opn} (h : rightO o = true) : o.key.size ≤ 32 ∧ o.text.size ≤ 64 ∧ o.cuts.length ≤ 16 := by
  refine ⟨?_, ?_, ?_⟩
  · by_cases hf : 2 ∈ told o.k
    · have hr : K.right (tx o.key) = true := right_told h 2 hf
      by_cases hs : o.key.size < 1 ∨ 32 < o.key.size
      · rw [key_no _ hs] at hr; cases hr
      · omega
    · have hr : decide (o.key.size = 0) = true := right_not h (f := 2) (by decide) hf
      have := of_decide_eq_true hr
      omega
  · by_cases hf : 6 ∈ told o.k
    · have hr := right_told h 6 hf
      simp [rightF] at hr
      omega
    · have hr : decide (o.text.size = 0) = true := right_not h (f := 6) (by decide) hf
      have := of_decide_eq_true hr
      omega
  · by_cases hf : 7 ∈ told o.k
    · have hr := right_told h 7 hf
      simp [rightF] at hr
      omega
    · have hr := right_not h (f := 7) (by decide) hf
      simp [noughtF] at hr
      rw [hr]
      decide
theorem fine_right {o : Opn} (h : rightO o = true) : o.fine ∧ o.cuts.length ≤ 100000 := by
  have := right_sizes h
  exact ⟨⟨by omega, by omega⟩, by omega⟩
end Go.Proofs.YteckjkblngmenaaGreatDoor

/-
  What crc.word returns is proved here, for all slices that read as at least four bytes: the number that the first four tell.
-/
namespace Go.Proofs.YteckjkblngmenaaGreatDoor
open Go.RowKit
set_option linter.unusedVariables false
set_option maxRecDepth 100000

/-- The number behind k rounds. -/
def part (xs : List Int) : Nat → Int
  | 0 => 0
  | k + 1 => part xs k + xs.getD k 0 * 2 ^ (8 * k)

theorem part_4 (xs : List Int) : part xs 4 = C.wi xs := by
  simp only [part, C.wi]
  omega
theorem join_i64 (i : Nat) (hi : i ≤ 54) (y x : Int) (hy₀ : 0 ≤ y) (hy : y < 2 ^ i) (hx₀ : 0 ≤ x) (hx : x < 256) : bits .or .i64 y (x * 2 ^ i) = y + x * 2 ^ i := by
  obtain ⟨a, rfl⟩ := Int.eq_ofNat_of_zero_le hx₀
  obtain ⟨b, rfl⟩ := Int.eq_ofNat_of_zero_le hy₀
  have ha : a < 256 := by omega
  have hb : b < 2 ^ i := by exact_mod_cast hy
  have e : ((a : Int) * 2 ^ i) = ((2 ^ i * a : Nat) : Int) := by push_cast; rw [Int.mul_comm]
  have h1 : 2 ^ i ≤ 2 ^ 54 := Nat.pow_le_pow_right (by decide) hi
  have h2 : 2 ^ i * a < 2 ^ 62 := by
    have : 2 ^ i * a ≤ 2 ^ 54 * a := Nat.mul_le_mul_right a h1
    omega
  rw [e, (bits_nat .i64 62 (by decide) wraps_i64' b (2 ^ i * a) (by omega) h2).2, Nat.or_comm, ← Nat.two_pow_add_eq_or_of_lt hb]
  omega

theorem part_lt {xs : List Int} (h : C.Bytes xs) {k : Nat} (hk : k < 4) : 0 ≤ part xs k ∧ part xs k < 2 ^ (8 * k) := by
  have h0 := C.getD_byte h 0
  have h1 := C.getD_byte h 1
  have h2 := C.getD_byte h 2
  have : k = 0 ∨ k = 1 ∨ k = 2 ∨ k = 3 := by omega
  rcases this with rfl | rfl | rfl | rfl <;> simp only [part] <;> omega
theorem or_part {xs : List Int} (h : C.Bytes xs) {k : Nat} (hk : k < 4) : bits .or .i64 (part xs k) (wrap64 (xs.getD k 0 * 2 ^ (8 * k))) = part xs k + xs.getD k 0 * 2 ^ (8 * k) := by
  have hp := part_lt h hk
  have hx := C.getD_byte h k
  rw [show wrap64 (xs.getD k 0 * 2 ^ (8 * k)) = xs.getD k 0 * 2 ^ (8 * k) by
    have : k = 0 ∨ k = 1 ∨ k = 2 ∨ k = 3 := by omega
    unfold wrap64
    rcases this with rfl | rfl | rfl | rfl <;> omega]
  exact join_i64 (8 * k) (by omega) _ _ hp.1 hp.2 hx.1 hx.2

set_option maxHeartbeats 1000000 in
theorem word_any (v : Value) (xs : List Int) (w : World) (h : Bs w v xs) (h4 : 4 ≤ xs.length) :
    Calls Tryz.prog 114 #[v] w fun e w' => e = .returned (.int .i64 (C.wi xs)) ∧ w = w' := by
  have hr : C.Bytes xs := h.range
  have hl := h.len
  unfold maxLen at hl
  obtain ⟨b, off, c, rfl, _, _, hc⟩ := h.inv (by omega)
  obtain ⟨n, hn⟩ : ∃ n, xs.length = n := ⟨_, rfl⟩
  rw [hn] at hl h4 hc ⊢
  have HC := hid hc
  have HR := hid hr
  clear hr hn h hc
  go_enter Tryz.func114, Tryz.ntmps114
  go_wp2
  go_loop [3, 5] (fun s i => ∃ k : Nat, k ≤ 4 ∧ i = .int .i64 k ∧ s = .int .i64 (part xs k)) (fun _ i => 4 - (intOf i).toNat)
  case atStart => exact ⟨0, Nat.zero_le _, rfl, rfl⟩
  case round =>
    obtain ⟨k, hk, rfl, rfl⟩ := hrel
    by_cases hlt : k < 4
    · have hck := HC.out k (by omega)
      have hx := C.getD_byte HR.out k
      obtain ⟨x, hx'⟩ : ∃ x, xs.getD k 0 = x := ⟨_, rfl⟩
      rw [hx'] at hx hck
      have hlt' : (k : Int) < 4 := by omega
      have hn4 : (k : Int) < (n : Int) := by omega
      have hp := part_lt HR.out hlt
      have hj := hid (or_part HR.out hlt)
      go_wp2
      go_round
      case rel => exact ⟨k + 1, by omega, by go_num, by rw [part, ← hj.out, hx']⟩
      case measure => simp [intOf]; omega
    · obtain rfl : k = 4 := by omega
      rw [part_4]
      go_wp2
      go_ret
      exact ⟨rfl, rfl⟩

end Go.Proofs.YteckjkblngmenaaGreatDoor

/-
  What crc.first returns is proved here, for all slices that read as bytes: what they begin with.
-/
namespace Go.Proofs.YteckjkblngmenaaGreatDoor
open Go.RowKit
set_option linter.unusedVariables false
set_option maxRecDepth 100000

set_option maxHeartbeats 1000000 in
theorem cfirst_any (v : Value) (xs : List Int) (w : World) (h : Bs w v xs) :
    Calls Tryz.prog 89 #[v] w fun e w' => ∃ v', e = .returned (.tuple #[v', .int .i64 (C.wh xs : Nat)]) ∧ Bs w' v' (if C.wh xs = 0 then C.bd xs else []) ∧ Below w.heap.size w w' := by
  have hr : C.Bytes xs := h.range
  have hl := h.len
  unfold maxLen at hl
  have hB := hid h
  by_cases h8 : xs.length < 8
  · have hw : C.wh xs = 1 := by unfold C.wh; rw [if_pos h8]
    rw [hw]
    obtain ⟨a, c, rfl, _⟩ := h
    clear hB
    go_enter Tryz.func89, Tryz.ntmps89
    go_wp2
    go_ret2
    exact ⟨_, rfl, Bs.nil _, Below.refl _ _⟩
  · obtain ⟨b, off, c, rfl, hnc, hcm, hc⟩ := h.inv (by omega)
    unfold maxLen at hcm
    have hwd := C.wd_cast hr
    have hwr := C.wi_range hr
    obtain ⟨W, hW⟩ : ∃ W, C.wi xs = W := ⟨_, rfl⟩
    have hword := hid (fun (w' : World) (h' : Bs w' (.slice (some ⟨b, off, none⟩) xs.length c) xs) => hW ▸ word_any _ xs w' h' (by omega))
    rw [hW] at hwd hwr
    have hdef : C.wh xs = if 65536 < C.wd xs then 2 else if xs.length - 8 < C.wd xs then 1 else if C.sum (C.bd xs) = C.wd (xs.drop 4) then 0 else 2 := by
      conv => lhs; unfold C.wh
      rw [if_neg h8]
    have HD := hid hdef
    obtain ⟨n, hn⟩ : ∃ n, xs.length = n := ⟨_, rfl⟩
    rw [hn] at h8 hl hnc hB hword HD ⊢
    have HN := hid hn
    clear hdef hn hc h hW
    have HR := hid hr
    clear hr
    have h8' : ¬ (n : Int) < 8 := by omega
    have g8 : (8 : Int) ≤ (n : Int) := by omega
    have g8c : (8 : Int) ≤ (c : Int) := by omega
    have hk : ∃ k : Nat, C.wd xs = k := ⟨_, rfl⟩
    obtain ⟨k, hk⟩ := hk
    have HK := hid hk
    rw [hk] at hwd HD
    obtain rfl : W = (k : Int) := hwd.symm
    clear hk hwd
    have h4w := C.wd_cast (C.Bytes.drop HR.out 4)
    obtain ⟨V, hV⟩ : ∃ V, C.wi (xs.drop 4) = V := ⟨_, rfl⟩
    obtain ⟨S, hS⟩ : ∃ S, C.sum (C.bd xs) = S := ⟨_, rfl⟩
    have HS := hid hS
    rw [hS] at HD
    have HV := hid hV
    rw [hV] at h4w
    have H4 := hid h4w
    clear hS hV h4w
    have n4 : ¬ c = 4 := by omega
    have g4 : (4 : Int) ≤ (n : Int) := by omega
    have g4c : (4 : Int) ≤ (c : Int) := by omega
    have hB4 := hid (Bs.drop hB.out 4 (by omega))
    have hB8 := hid (Bs.drop hB.out 8 (by omega))
    rw [if_neg n4] at hB4
    by_cases c8 : c = 8
    · subst c8
      obtain rfl : n = 8 := by omega
      rw [if_pos rfl] at hB8
      by_cases h2 : 65536 < k
      · have h2' : (65536 : Int) < (k : Int) := by omega
        rw [if_pos h2] at HD
        rw [HD.out]
        go_enter Tryz.func89, Tryz.ntmps89
        go_wp2_with fail
        go_quiet ((go_at_call 114; exact Calls.quiet_of_same ((hword.out _ (hB.out.drewN _)).mono fun _ _ h => ⟨h.1, h.2.symm⟩)))
        go_wp2_with fail
        go_ret2
        exact ⟨_, rfl, Bs.nil _, bd _ _⟩
      · have h2' : ¬ (65536 : Int) < (k : Int) := by omega
        rw [if_neg h2] at HD
        by_cases h3 : 8 - 8 < k
        · have h3' : (0 : Int) < (k : Int) := by omega
          rw [if_pos h3] at HD
          rw [HD.out]
          go_enter Tryz.func89, Tryz.ntmps89
          go_wp2_with fail
          go_quiet ((go_at_call 114; exact Calls.quiet_of_same ((hword.out _ (hB.out.drewN _)).mono fun _ _ h => ⟨h.1, h.2.symm⟩)))
          go_wp2_with fail
          go_ret2
          exact ⟨_, rfl, Bs.nil _, bd _ _⟩
        · rw [if_neg h3] at HD
          have h3' : ¬ (0 : Int) < (k : Int) := by omega
          have hkc : (k : Int) ≤ (0 : Int) := by omega
          obtain rfl : k = 0 := by omega
          have hbd : Hid (Bs w (.slice (some ⟨b, off, none⟩) 0 (0)) (C.bd xs)) := by
            have := Bs.take hB8.out 0 (by omega)
            rw [C.bd, HK.out]
            exact this
          by_cases h5 : S = C.wd (xs.drop 4)
          · have h5' : ((S : Int) != V) = false := by have := H4.out; simp; omega
            rw [if_pos h5] at HD
            rw [HD.out, if_pos rfl]
            clear h5
            go_enter Tryz.func89, Tryz.ntmps89
            go_wp2_with fail
            go_quiet ((go_at_call 114; exact Calls.quiet_of_same ((hword.out _ (hB.out.drewN _)).mono fun _ _ h => ⟨h.1, h.2.symm⟩)))
            go_wp2_with fail
            go_region_with (first
              | (go_at_call 109; refine (sum_any _ (C.bd xs) _ ?_).mono ?_; exact hbd.out; rintro e w2 ⟨rfl, b2⟩; rw [HS.out])
              | (go_at_call 114; refine (word_any _ (xs.drop 4) _ ?_ (by rw [List.length_drop, HN.out]; omega)).mono ?_; exact Bs.below (hB4.out.drewN _) b2; rintro e w3 ⟨rfl, rfl⟩; rw [HV.out]))
            all_goals
              go_wp2
              go_ret2
              exact ⟨_, rfl, (hbd.out.drewN _).below b2, bt (bd w _) b2⟩
          · have h5' : ((S : Int) != V) = true := by have := H4.out; simp; omega
            rw [if_neg h5] at HD
            rw [HD.out, if_neg (by decide)]
            clear h5
            go_enter Tryz.func89, Tryz.ntmps89
            go_wp2_with fail
            go_quiet ((go_at_call 114; exact Calls.quiet_of_same ((hword.out _ (hB.out.drewN _)).mono fun _ _ h => ⟨h.1, h.2.symm⟩)))
            go_wp2_with fail
            go_region_with (first
              | (go_at_call 109; refine (sum_any _ (C.bd xs) _ ?_).mono ?_; exact hbd.out; rintro e w2 ⟨rfl, b2⟩; rw [HS.out])
              | (go_at_call 114; refine (word_any _ (xs.drop 4) _ ?_ (by rw [List.length_drop, HN.out]; omega)).mono ?_; exact Bs.below (hB4.out.drewN _) b2; rintro e w3 ⟨rfl, rfl⟩; rw [HV.out]))
            all_goals
              go_wp2
              go_ret2
              exact ⟨_, rfl, Bs.nil _, bt (bd w _) b2⟩
    · rw [if_neg c8] at hB8
      by_cases h2 : 65536 < k
      · have h2' : (65536 : Int) < (k : Int) := by omega
        rw [if_pos h2] at HD
        rw [HD.out]
        go_enter Tryz.func89, Tryz.ntmps89
        go_wp2_with fail
        go_quiet ((go_at_call 114; exact Calls.quiet_of_same ((hword.out _ (hB.out.drewN _)).mono fun _ _ h => ⟨h.1, h.2.symm⟩)))
        go_wp2_with fail
        go_ret2
        exact ⟨_, rfl, Bs.nil _, bd _ _⟩
      · have h2' : ¬ (65536 : Int) < (k : Int) := by omega
        rw [if_neg h2] at HD
        by_cases h3 : n - 8 < k
        · have h3' : ((n - 8 : Nat) : Int) < (k : Int) := by omega
          rw [if_pos h3] at HD
          rw [HD.out]
          go_enter Tryz.func89, Tryz.ntmps89
          go_wp2_with fail
          go_quiet ((go_at_call 114; exact Calls.quiet_of_same ((hword.out _ (hB.out.drewN _)).mono fun _ _ h => ⟨h.1, h.2.symm⟩)))
          go_wp2_with fail
          go_ret2
          exact ⟨_, rfl, Bs.nil _, bd _ _⟩
        · rw [if_neg h3] at HD
          have h3' : ¬ ((n - 8 : Nat) : Int) < (k : Int) := by omega
          have hkc : (k : Int) ≤ ((c - 8 : Nat) : Int) := by omega
          have hbd : Hid (Bs w (.slice (some ⟨b, off + 8, none⟩) k (c - 8)) (C.bd xs)) := by
            have := Bs.take hB8.out k (by omega)
            rw [C.bd, HK.out]
            exact this
          by_cases h5 : S = C.wd (xs.drop 4)
          · have h5' : ((S : Int) != V) = false := by have := H4.out; simp; omega
            rw [if_pos h5] at HD
            rw [HD.out, if_pos rfl]
            clear h5
            go_enter Tryz.func89, Tryz.ntmps89
            go_wp2_with fail
            go_quiet ((go_at_call 114; exact Calls.quiet_of_same ((hword.out _ (hB.out.drewN _)).mono fun _ _ h => ⟨h.1, h.2.symm⟩)))
            go_wp2_with fail
            go_region_with (first
              | (go_at_call 109; refine (sum_any _ (C.bd xs) _ ?_).mono ?_; exact hbd.out; rintro e w2 ⟨rfl, b2⟩; rw [HS.out])
              | (go_at_call 114; refine (word_any _ (xs.drop 4) _ ?_ (by rw [List.length_drop, HN.out]; omega)).mono ?_; exact Bs.below (hB4.out.drewN _) b2; rintro e w3 ⟨rfl, rfl⟩; rw [HV.out]))
            all_goals
              go_wp2
              go_ret2
              exact ⟨_, rfl, (hbd.out.drewN _).below b2, bt (bd w _) b2⟩
          · have h5' : ((S : Int) != V) = true := by have := H4.out; simp; omega
            rw [if_neg h5] at HD
            rw [HD.out, if_neg (by decide)]
            clear h5
            go_enter Tryz.func89, Tryz.ntmps89
            go_wp2_with fail
            go_quiet ((go_at_call 114; exact Calls.quiet_of_same ((hword.out _ (hB.out.drewN _)).mono fun _ _ h => ⟨h.1, h.2.symm⟩)))
            go_wp2_with fail
            go_region_with (first
              | (go_at_call 109; refine (sum_any _ (C.bd xs) _ ?_).mono ?_; exact hbd.out; rintro e w2 ⟨rfl, b2⟩; rw [HS.out])
              | (go_at_call 114; refine (word_any _ (xs.drop 4) _ ?_ (by rw [List.length_drop, HN.out]; omega)).mono ?_; exact Bs.below (hB4.out.drewN _) b2; rintro e w3 ⟨rfl, rfl⟩; rw [HV.out]))
            all_goals
              go_wp2
              go_ret2
              exact ⟨_, rfl, Bs.nil _, bt (bd w _) b2⟩

end Go.Proofs.YteckjkblngmenaaGreatDoor

/-
  What crc.Next returns is proved here, for all slices that read as bytes, of at most 2^47 of them, and every place.
-/
namespace Go.Proofs.YteckjkblngmenaaGreatDoor
open Go.RowKit
set_option linter.unusedVariables false
set_option maxRecDepth 100000

theorem ret3_eq {v : Value} {a b : Int} {k : Value} (h : a = b) : Ending.returned (.tuple #[v, .int .i64 a, k]) = .returned (.tuple #[v, .int .i64 b, k]) := by rw [h]

/-- What stands at a place within bytes: the bytes, the place behind. -/
def nxV (xs : List Int) (p : Nat) : List Int := if C.wh (xs.drop p) = 0 then C.bd (xs.drop p) else []
def nxP (xs : List Int) (p : Nat) : Nat := if C.wh (xs.drop p) = 0 then p + 8 + C.wd (xs.drop p) else p

theorem wh_0 {xs : List Int} (h : C.wh xs = 0) : 8 ≤ xs.length ∧ C.wd xs ≤ xs.length - 8 ∧ C.wd xs ≤ 65536 ∧ C.sum (C.bd xs) = C.wd (xs.drop 4) ∧ (C.bd xs).length = C.wd xs := by
  unfold C.wh at h
  split at h
  · simp at h
  · split at h
    · simp at h
    · split at h
      · simp at h
      · split at h
        · refine ⟨by omega, by omega, by omega, by assumption, ?_⟩
          rw [C.bd, List.length_take, List.length_drop]
          omega
        · simp at h

set_option maxHeartbeats 1000000 in
theorem next_any (v : Value) (xs : List Int) (p : Nat) (w : World) (h : Bs w v xs) (hp : p ≤ xs.length) (hl : xs.length ≤ 140737488355328) :
    Calls Tryz.prog 60 #[v, .int .i64 p] w fun e w' => ∃ v', e = .returned (.tuple #[v', .int .i64 (nxP xs p), .int .i64 (C.wh (xs.drop p) : Nat)]) ∧ Bs w' v' (nxV xs p) ∧ Below w.heap.size w w' ∧ Fresh w.heap.size v' := by
  have hB := hid h
  have hv : ∃ a c, v = .slice a xs.length c ∧ xs.length ≤ c := by
    obtain ⟨a, c, e, h2, _⟩ := h
    exact ⟨a, c, e, h2⟩
  obtain ⟨a, c, rfl, hlc⟩ := hv
  have hD := hid (Bs.drop h p hp)
  clear h
  have hpn : ¬ (xs.length : Int) < (p : Int) := by omega
  have hp0 : decide ((p : Int) < 0) = false := by simp
  have hpc : (p : Int) ≤ (c : Int) := by omega
  have hpl : (p : Int) ≤ (xs.length : Int) := by omega
  have hV := hid (show nxV xs p = if C.wh (xs.drop p) = 0 then C.bd (xs.drop p) else [] from rfl)
  have hP := hid (show nxP xs p = if C.wh (xs.drop p) = 0 then p + 8 + C.wd (xs.drop p) else p from rfl)
  have hW := hid (fun e => wh_0 (xs := xs.drop p) e)
  have hfit : (C.bd (xs.drop p)).length ≤ 140737488355328 := by
    rw [C.bd, List.length_take, List.length_drop, List.length_drop]; omega
  obtain ⟨W, hW'⟩ : ∃ W, C.wh (xs.drop p) = W := ⟨_, rfl⟩
  have hfirst := hid (fun (w' : World) (v : Value) (h' : Bs w' v (xs.drop p)) => cfirst_any v (xs.drop p) w' h')
  rw [hW'] at hV hP hW hfirst ⊢
  by_cases hcp : c = p
  · subst hcp
    have hxc : xs.length = c := by omega
    rw [if_pos rfl, hxc, Nat.sub_self] at hD
    rw [hxc] at hpn hpl hlc hl hp ⊢
    clear hxc
    go_enter Tryz.func60, Tryz.ntmps60
    go_wp2_with fail
    refine (hfirst.out _ _ hD.out).mono ?_
    rintro e w1 ⟨v1, rfl, hB1, b1⟩
    by_cases h0 : W = 0
    · subst h0
      rw [if_pos rfl] at hB1 hP hV
      have hW0 := hid (hW.out rfl)
      clear hfirst hD hB
      have hv1 : ∃ a1 c1, v1 = .slice a1 (C.bd (xs.drop c)).length c1 := by
        obtain ⟨a1, c1, e1, _⟩ := hB1
        exact ⟨a1, c1, e1⟩
      obtain ⟨a1, c1, rfl⟩ := hv1
      have HB1 := hid hB1
      clear hB1
      have hbl : (C.bd (xs.drop c)).length ≤ 65536 := by have := hW0.out; omega
      obtain ⟨m, hm⟩ : ∃ m, (C.bd (xs.drop c)).length = m := ⟨_, rfl⟩
      rw [hm] at hfit HB1 hbl ⊢
      have HM := hid hm
      clear hm
      go_wp2_with fail
      refine (clone_fresh _ _ _ HB1.out (by rw [HM.out]; exact hfit)).mono ?_
      rintro e w2 ⟨v2, rfl, hB2, b2, hf2⟩
      go_wp2
      go_ret3
      rw [hP.out, hV.out]
      refine ⟨_, ret3_eq ?_, hB2, bt b1 b2, fun x n c e => Nat.le_trans b1.size (hf2 x n c e)⟩
      have := hW0.out
      have := HM.out
      omega
    · rw [if_neg h0] at hB1 hP hV
      have h0' : ((W : Int) != 0) = true := by simp; omega
      clear h0 hfirst hD hB hW
      have HB1 := hid hB1
      clear hB1
      have hv1 : ∃ a1 n1 c1, v1 = .slice a1 n1 c1 := by
        obtain ⟨a1, c1, e1, _⟩ := HB1.out
        exact ⟨a1, _, c1, e1⟩
      obtain ⟨a1, n1, c1, rfl⟩ := hv1
      go_wp2
      go_ret3
      rw [hP.out, hV.out]
      exact ⟨_, rfl, Bs.nil _, b1, fun x n c e => by cases e⟩
  · rw [if_neg hcp] at hD
    go_enter Tryz.func60, Tryz.ntmps60
    go_wp2_with fail
    refine (hfirst.out _ _ hD.out).mono ?_
    rintro e w1 ⟨v1, rfl, hB1, b1⟩
    by_cases h0 : W = 0
    · subst h0
      rw [if_pos rfl] at hB1 hP hV
      have hW0 := hid (hW.out rfl)
      clear hfirst hD hB
      have hv1 : ∃ a1 c1, v1 = .slice a1 (C.bd (xs.drop p)).length c1 := by
        obtain ⟨a1, c1, e1, _⟩ := hB1
        exact ⟨a1, c1, e1⟩
      obtain ⟨a1, c1, rfl⟩ := hv1
      have HB1 := hid hB1
      clear hB1
      have hbl : (C.bd (xs.drop p)).length ≤ 65536 := by have := hW0.out; omega
      obtain ⟨m, hm⟩ : ∃ m, (C.bd (xs.drop p)).length = m := ⟨_, rfl⟩
      rw [hm] at hfit HB1 hbl ⊢
      have HM := hid hm
      clear hm
      go_wp2_with fail
      refine (clone_fresh _ _ _ HB1.out (by rw [HM.out]; exact hfit)).mono ?_
      rintro e w2 ⟨v2, rfl, hB2, b2, hf2⟩
      go_wp2
      go_ret3
      rw [hP.out, hV.out]
      refine ⟨_, ret3_eq ?_, hB2, bt b1 b2, fun x n c e => Nat.le_trans b1.size (hf2 x n c e)⟩
      have := hW0.out
      have := HM.out
      omega
    · rw [if_neg h0] at hB1 hP hV
      have h0' : ((W : Int) != 0) = true := by simp; omega
      clear h0 hfirst hD hB hW
      have HB1 := hid hB1
      clear hB1
      have hv1 : ∃ a1 n1 c1, v1 = .slice a1 n1 c1 := by
        obtain ⟨a1, c1, e1, _⟩ := HB1.out
        exact ⟨a1, _, c1, e1⟩
      obtain ⟨a1, n1, c1, rfl⟩ := hv1
      go_wp2
      go_ret3
      rw [hP.out, hV.out]
      exact ⟨_, rfl, Bs.nil _, b1, fun x n c e => by cases e⟩

end Go.Proofs.YteckjkblngmenaaGreatDoor

/-
  What bytes tell as a log ('Og', 'Tl'), in plain mathematics: what a log's bytes tell is that log, and bytes that tell a log are that log's.
-/
namespace Go.Proofs.YteckjkblngmenaaGreatDoor
open Go.RowKit
set_option linter.unusedVariables false
set_option maxRecDepth 100000

/-- Frames of ops, from a frame's beginning on: true, they end in a cut; false, in what is none. -/
def Og : List Int → List (List Opn) → Bool → Prop
  | ys, [], t => (t = true ∧ C.wh ys = 1) ∨ (t = false ∧ C.wh ys ≠ 1 ∧ (C.wh ys ≠ 0 ∨ (decA mOwn (C.bd ys)).2 = false ∨ (decA mOwn (C.bd ys)).1 = []))
  | ys, f :: fs, t => C.wh ys = 0 ∧ decA mOwn (C.bd ys) = (f, true) ∧ f ≠ [] ∧ Og (ys.drop (8 + C.wd ys)) fs t
theorem Og.cut {ys : List Int} (h : C.wh ys = 1) : Og ys [] true := .inl ⟨rfl, h⟩
theorem Og.bad {ys : List Int} (h : C.wh ys = 2) : Og ys [] false := .inr ⟨rfl, by omega, .inl (by omega)⟩
theorem Og.wrong {ys : List Int} (h : C.wh ys = 0) (k : (decA mOwn (C.bd ys)).2 = false ∨ (decA mOwn (C.bd ys)).1 = []) : Og ys [] false := .inr ⟨rfl, by omega, .inr k⟩
theorem Og.more {ys : List Int} {f : List Opn} {fs : List (List Opn)} {t : Bool} (h1 : C.wh ys = 0) (h2 : decA mOwn (C.bd ys) = (f, true)) (h3 : f ≠ []) (h4 : Og (ys.drop (8 + C.wd ys)) fs t) : Og ys (f :: fs) t := ⟨h1, h2, h3, h4⟩
theorem Og.not {ys : List Int} {f : List Opn} {fs : List (List Opn)} {t u : Bool} (h : Og ys [] t) (k : Og ys (f :: fs) u) : False := by
  obtain ⟨k1, k2, k3, _⟩ := k
  rcases h with ⟨_, h⟩ | ⟨_, h1, h | h | h⟩
  · omega
  · exact h k1
  · rw [k2] at h; cases h
  · rw [k2] at h; exact k3 h
theorem Og.det : ∀ {fs gs : List (List Opn)} {ys : List Int} {t u : Bool}, Og ys fs t → Og ys gs u → fs = gs ∧ t = u
  | [], [], ys, t, u, h, k => by
    refine ⟨rfl, ?_⟩
    rcases h with ⟨h1, h2⟩ | ⟨h1, h2, _⟩ <;> rcases k with ⟨k1, k2⟩ | ⟨k1, k2, _⟩
    · rw [h1, k1]
    · exact absurd h2 k2
    · exact absurd k2 h2
    · rw [h1, k1]
  | [], g :: gs, ys, t, u, h, k => (Og.not h k).elim
  | f :: fs, [], ys, t, u, h, k => (Og.not k h).elim
  | f :: fs, g :: gs, ys, t, u, h, k => by
    obtain ⟨_, h2, _, h4⟩ := h
    obtain ⟨_, k2, _, k4⟩ := k
    rw [h2] at k2
    obtain ⟨e1, e2⟩ := Og.det h4 k4
    simp only [Prod.mk.injEq, and_true] at k2
    exact ⟨by rw [k2, e1], e2⟩

theorem decA_own {b : List Int} (hb : Byt b) (hn : b.length ≤ 65536) {f : List Opn} (h : decA mOwn b = (f, true)) : encA f = b ∧ (∀ o ∈ f, rightO o = true) ∧ f.length ≤ 1048576 := by
  have e := decA_same hb (by omega)
  rw [e] at h
  have := decA_sound hb (by omega) (by rw [h])
  rwa [h] at this
theorem decA_enc {f : List Opn} (h : f ≠ [] ∧ (∀ o ∈ f, rightO o = true) ∧ (encA f).length ≤ 65536) : decA mOwn (encA f) = (f, true) := by
  have hl := encA_pos f
  rw [decA_same (encA_byt h.2.1 (by omega)) (by omega), decA_full f h.2.1 (by omega)]

/-- Bytes that begin with a frame. -/
theorem frame_of {ys : List Int} (hb : Byt ys) (h : C.wh ys = 0) : ys = C.frame (C.bd ys) ++ ys.drop (8 + C.wd ys) := by
  obtain ⟨h8, hw, h65, hs, hl⟩ := wh_0 h
  have hsum := hs
  obtain ⟨a, ys, rfl⟩ : ∃ a r, ys = a :: r := List.exists_cons_of_length_pos (by omega)
  obtain ⟨b, ys, rfl⟩ : ∃ a r, ys = a :: r := List.exists_cons_of_length_pos (by simp at h8; omega)
  obtain ⟨c, ys, rfl⟩ : ∃ a r, ys = a :: r := List.exists_cons_of_length_pos (by simp at h8; omega)
  obtain ⟨d, ys, rfl⟩ : ∃ a r, ys = a :: r := List.exists_cons_of_length_pos (by simp at h8; omega)
  obtain ⟨e, ys, rfl⟩ : ∃ a r, ys = a :: r := List.exists_cons_of_length_pos (by simp at h8; omega)
  obtain ⟨f, ys, rfl⟩ : ∃ a r, ys = a :: r := List.exists_cons_of_length_pos (by simp at h8; omega)
  obtain ⟨g, ys, rfl⟩ : ∃ a r, ys = a :: r := List.exists_cons_of_length_pos (by simp at h8; omega)
  obtain ⟨i, ys, rfl⟩ : ∃ a r, ys = a :: r := List.exists_cons_of_length_pos (by simp at h8; omega)
  have ha := hb a (by simp)
  have hb' := hb b (by simp)
  have hc := hb c (by simp)
  have hd := hb d (by simp)
  have he := hb e (by simp)
  have hf := hb f (by simp)
  have hg := hb g (by simp)
  have hi := hb i (by simp)
  have hbd : C.bd (a :: b :: c :: d :: e :: f :: g :: i :: ys) = ys.take (C.wd (a :: b :: c :: d :: e :: f :: g :: i :: ys)) := rfl
  have h1 := C.wd_cast hb
  have h2 := C.wd_cast (l := e :: f :: g :: i :: ys) (fun x hx => hb x (by simp at hx ⊢; rcases hx with h | h | h | h | h <;> simp [h]))
  have h1' : C.wi (a :: b :: c :: d :: e :: f :: g :: i :: ys) = a + 256 * b + 65536 * c + 16777216 * d := rfl
  have h2' : C.wi (e :: f :: g :: i :: ys) = e + 256 * f + 65536 * g + 16777216 * i := rfl
  have h3 : (a :: b :: c :: d :: e :: f :: g :: i :: ys).drop 4 = e :: f :: g :: i :: ys := rfl
  rw [h3] at hsum
  unfold C.frame
  rw [hl, hsum]
  obtain ⟨W, hW⟩ : ∃ W, C.wd (a :: b :: c :: d :: e :: f :: g :: i :: ys) = W := ⟨_, rfl⟩
  obtain ⟨V, hV⟩ : ∃ V, C.wd (e :: f :: g :: i :: ys) = V := ⟨_, rfl⟩
  rw [hW] at h1 hbd ⊢
  rw [hV] at h2 ⊢
  rw [hbd]
  have e1 : C.le W = [a, b, c, d] := by
    unfold C.le
    rw [h1, h1']
    simp only [List.cons.injEq, and_true]
    exact ⟨by omega, by omega, by omega, by omega⟩
  have e2 : C.le V = [e, f, g, i] := by
    unfold C.le
    rw [h2, h2']
    simp only [List.cons.injEq, and_true]
    exact ⟨by omega, by omega, by omega, by omega⟩
  rw [e1, e2, Nat.add_comm 8 W]
  simp only [List.cons_append, List.nil_append]
  rw [show (a :: b :: c :: d :: e :: f :: g :: i :: ys).drop (W + 8) = ys.drop W from by simp [List.drop_succ_cons], List.take_append_drop]

theorem rfO_sound {b : List Int} (hb : Byt b) (h : rfO b = true) : 0 ≤ rfV b ∧ rfV b ≤ 15 ∧ b = fb0 (rfV b) := by
  unfold rfO at h
  have hv : Vl (b, false) := ⟨hb, fun h => by cases h⟩
  have h0 := rn_sound 0 hv
  have h1 := rn_sound 15 h0.1
  have e : rfS b = rn 15 (rn 0 (b, false)).2 := rfl
  have hl : (rfS b).2.2 = false := by
    cases hx : (rfS b).2.2 with
    | false => rfl
    | true => rw [hx] at h; simp at h
  have hn : (rfS b).2.1 = [] := by
    rw [hl] at h
    simpa using h
  rw [e] at hl hn
  obtain ⟨h2, h3⟩ := h1.2 hl
  obtain ⟨_, h4⟩ := h0.2 h2
  rw [hn, List.append_nil] at h3
  have v0 := rn_val (m := 0) (s := (b, false)) hb
  have v1 := rn_val (m := 15) (s := (rn 0 (b, false)).2) h0.1.1
  have z : (rn 0 (b, false)).1 = 0 := by have := v0.2.2 (by decide); omega
  refine ⟨v1.1, v1.2.2 (by decide), ?_⟩
  show b = encA [] ++ M.enc (rn 15 (rn 0 (b, false)).2).1
  have h4' : b = M.enc 0 ++ (rn 0 (b, false)).2.1 := by rw [z] at h4; exact h4
  exact h4'.trans (congrArg (M.enc 0 ++ ·) h3)
theorem rfO_full {r : Int} (h0 : 0 ≤ r) (h1 : r ≤ 15) : rfV (fb0 r) = r ∧ rfO (fb0 r) = true := by
  have e : rfS (fb0 r) = (r, ([], false)) := by
    unfold rfS fb0 encA
    rw [List.flatMap_nil, List.append_nil]
    rw [rn_full (m := 0) (n := (([] : List Opn).length : Int)) (by decide) (by decide) (by decide)]
    have := rn_full (m := 15) (n := r) h0 h1 (by omega) []
    rw [List.append_nil] at this
    exact this
  unfold rfV rfO
  rw [e]
  exact ⟨rfl, rfl⟩
theorem rfO_nil : rfO [] = false := by decide

/-- A frame more of a log. -/
theorem og_step {r : Int} {Fs : List (List Opn)} {ys : List Int} {f : List Opn} (hb : Byt ys) (hg : Good Fs) (h0 : C.wh ys = 0) (hd : decA mOwn (C.bd ys) = (f, true)) (hne : f ≠ []) :
    Good (Fs ++ [f]) ∧ lby r Fs ++ ys = lby r (Fs ++ [f]) ++ ys.drop (8 + C.wd ys) ∧ (encA f).length = C.wd ys := by
  obtain ⟨h8, hw, h65, hs, hl⟩ := wh_0 h0
  have hbb : Byt (C.bd ys) := fun x hx => hb x (List.mem_of_mem_drop (List.mem_of_mem_take hx))
  obtain ⟨e1, e2, _⟩ := decA_own hbb (by omega) hd
  refine ⟨hg.append (fun g hg => ?_), ?_, by rw [e1, hl]⟩
  · rw [List.mem_singleton.1 hg]
    exact ⟨hne, e2, by rw [e1]; omega⟩
  · rw [lby_snoc, e1, List.append_assoc, ← frame_of hb h0]
theorem og_back (Fs : List (List Opn)) (hg : Good Fs) {ys : List Int} {Gs : List (List Opn)} {t : Bool} (h : Og ys Gs t) : Og (C.cat (Fs.map encA) ++ ys) (Fs ++ Gs) t := by
  induction Fs with
  | nil => simpa [C.cat] using h
  | cons f Fs ih =>
    have hf := hg f (by simp)
    have ih := ih (fun x hx => hg x (by simp [hx]))
    have hl := encA_pos f
    have hbf := encA_byt hf.2.1 (by omega)
    rw [List.map_cons, C.cat_cons, List.append_assoc]
    have e1 := C.wh_frame (encA f) (C.cat (Fs.map encA) ++ ys) hbf hf.2.2
    have e2 := C.bd_frame (encA f) (C.cat (Fs.map encA) ++ ys) hf.2.2
    have e3 := C.wd_frame (encA f) (C.cat (Fs.map encA) ++ ys) hf.2.2
    refine Og.more e1 (by rw [e2]; exact decA_enc hf) hf.1 ?_
    rw [e3, C.drop_frame]
    exact ih

/-- What bytes tell: nothing, or a replica and frames. -/
def Tl (xs : List Int) : Option (Int × List (List Opn)) → Prop
  | none => C.wh xs ≠ 0 ∨ rfO (C.bd xs) = false ∨ ∃ Fs, Og (xs.drop (8 + C.wd xs)) Fs false
  | some (r, Fs) => C.wh xs = 0 ∧ rfO (C.bd xs) = true ∧ r = rfV (C.bd xs) ∧ Og (xs.drop (8 + C.wd xs)) Fs true
theorem Tl.det {xs : List Int} : ∀ {o p : Option (Int × List (List Opn))}, Tl xs o → Tl xs p → o = p
  | none, none, h, k => rfl
  | none, some (r, Fs), h, k => by
    obtain ⟨k1, k2, k3, k4⟩ := k
    rcases h with h | h | ⟨Gs, h⟩
    · exact absurd k1 h
    · rw [k2] at h; cases h
    · have := (Og.det h k4).2; cases this
  | some (r, Fs), none, k, h => by
    obtain ⟨k1, k2, k3, k4⟩ := k
    rcases h with h | h | ⟨Gs, h⟩
    · exact absurd k1 h
    · rw [k2] at h; cases h
    · have := (Og.det h k4).2; cases this
  | some (r, Fs), some (q, Gs), h, k => by
    obtain ⟨k1, k2, k3, k4⟩ := k
    obtain ⟨h1, h2, h3, h4⟩ := h
    rw [h3, k3, (Og.det h4 k4).1]
theorem first_of {xs : List Int} (hb : Byt xs) (h : C.wh xs = 0) (k : rfO (C.bd xs) = true) : 0 ≤ rfV (C.bd xs) ∧ rfV (C.bd xs) ≤ 15 ∧ 8 + C.wd xs = 10 ∧ xs = lby (rfV (C.bd xs)) [] ++ xs.drop 10 := by
  have hbb : Byt (C.bd xs) := fun x hx => hb x (List.mem_of_mem_drop (List.mem_of_mem_take hx))
  obtain ⟨h0, h1, h2⟩ := rfO_sound hbb k
  have h10 : 8 + C.wd xs = 10 := by
    have := (wh_0 h).2.2.2.2
    have h3 := fb0_len h0 h1
    rw [← h2] at h3
    omega
  refine ⟨h0, h1, h10, ?_⟩
  have e := frame_of hb h
  rw [h10] at e
  have e2 : C.frame (C.bd xs) = lby (rfV (C.bd xs)) [] := by
    rw [lby_cons, ← h2]
    simp [C.cat]
  rw [← e2]
  exact e
theorem Tl.of {r : Int} {Fs : List (List Opn)} (hg : Good Fs) (h0 : 0 ≤ r) (h1 : r ≤ 15) {ys : List Int} {Gs : List (List Opn)} {t : Bool} (h : Og ys Gs t) : Tl (lby r Fs ++ ys) (if t then some (r, Fs ++ Gs) else none) := by
  have hl := fb0_len h0 h1
  have e1 := C.wh_frame (fb0 r) (C.cat (Fs.map encA) ++ ys) (fb0_byt h0 h1) (by omega)
  have e2 := C.bd_frame (fb0 r) (C.cat (Fs.map encA) ++ ys) (by omega)
  have e3 := C.wd_frame (fb0 r) (C.cat (Fs.map encA) ++ ys) (by omega)
  have e4 := rfO_full h0 h1
  have h := og_back Fs hg h
  rw [lby_cons, List.append_assoc]
  cases t with
  | true =>
    refine ⟨e1, by rw [e2]; exact e4.2, by rw [e2]; exact e4.1.symm, ?_⟩
    rw [e3, C.drop_frame]
    exact h
  | false =>
    refine .inr (.inr ⟨Fs ++ Gs, ?_⟩)
    rw [e3, C.drop_frame]
    exact h
theorem wh_nil' : C.wh [] = 1 := rfl
/-- A log's bytes, cut off somewhere behind its first frame. -/
theorem Tl.cut {r : Int} {Fs : List (List Opn)} (hg : Good Fs) (h0 : 0 ≤ r) (h1 : r ≤ 15) (c : Nat) (hc : 10 ≤ c) (hc2 : c ≤ (lby r Fs).length) : ∃ k ys,k ≤ Fs.length ∧ 10 + szF (Fs.take k) ≤ c ∧ (k < Fs.length → c < 10 + szF (Fs.take (k + 1))) ∧ (lby r Fs).take c = lby r (Fs.take k) ++ ys ∧ C.wh ys = 1 ∧ Tl ((lby r Fs).take c) (some (r,Fs.take k)) := by
  obtain ⟨k, hk, k1, k2⟩ := cut_at Fs (c - 10)
  have hsz := lby_len h0 h1 (Fs.take k)
  have hall := lby_len h0 h1 Fs
  have e : lby r Fs = lby r (Fs.take k) ++ C.cat ((Fs.drop k).map encA) := by
    rw [lby_cons, lby_cons, List.append_assoc, ← C.cat_append, ← List.map_append, List.take_append_drop]
  obtain ⟨ys, hys⟩ : ∃ ys, (C.cat ((Fs.drop k).map encA)).take (c - (10 + szF (Fs.take k))) = ys := ⟨_, rfl⟩
  have e2 : (lby r Fs).take c = lby r (Fs.take k) ++ ys := by
    rw [e, List.take_append, hsz, hys, List.take_of_length_le (by omega)]
  have hw : C.wh ys = 1 := by
    by_cases hlt : k < Fs.length
    · have h3 := k2 hlt
      have hd := List.drop_eq_getElem_cons hlt
      rw [List.take_succ_eq_append_getElem hlt, szF_append, szF_one] at h3
      have hf := hg _ (List.getElem_mem hlt)
      rw [← hys, hd, List.map_cons, C.cat_cons]
      exact C.wh_cut _ _ _ hf.2.2 (by omega)
    · rw [← hys, List.drop_of_length_le (by omega)]
      simp [C.cat, wh_nil']
  refine ⟨k, ys, hk, by omega, fun hlt => by have := k2 hlt; omega, e2, hw, ?_⟩
  rw [e2]
  have := Tl.of (hg.take k) h0 h1 (Og.cut hw)
  simpa using this
end Go.Proofs.YteckjkblngmenaaGreatDoor

/-
  What the frames that Split finds tell as a log: plain mathematics.
-/
namespace Go.Proofs.YteckjkblngmenaaGreatDoor
open Go.RowKit
set_option linter.unusedVariables false
set_option maxRecDepth 100000

theorem wh_three2 (ys : List Int) : C.wh ys = 0 ∨ C.wh ys = 1 ∨ C.wh ys = 2 := by
  unfold C.wh
  split
  · exact .inr (.inl rfl)
  · split
    · exact .inr (.inr rfl)
    · split
      · exact .inr (.inl rfl)
      · split
        · exact .inl rfl
        · exact .inr (.inr rfl)
/-- The ops of each frame, if each tells some. -/
def dAll : List (List Int) → Option (List (List Opn))
  | [] => some []
  | f :: fs => if (decA mOwn f).2 = true ∧ (decA mOwn f).1 ≠ [] then (dAll fs).map ((decA mOwn f).1 :: ·) else none
theorem og_sp : ∀ {fs : List (List Int)} {ys : List Int} {n t : Nat}, C.Sp ys fs n t → (∀ Fs, dAll fs = some Fs → Og ys Fs (decide (t ≠ 2))) ∧ (dAll fs = none → ∃ Fs, Og ys Fs false)
  | [], ys, n, t, h => by
    refine ⟨fun Fs hF => ?_, fun hF => by cases hF⟩
    have e : Fs = [] := by simpa [dAll] using hF.symm
    subst e
    rcases h.2 with ⟨h1, h2⟩ | ⟨h1, h2, h3⟩
    · subst h1; subst h2
      exact Og.cut rfl
    · rw [h3]
      rcases wh_three2 ys with hw | hw | hw
      · exact absurd hw h2
      · rw [hw]; exact Og.cut hw
      · rw [hw]; exact Og.bad hw
  | f :: fs, ys, n, t, h => by
    obtain ⟨h0, rfl, m, _, hs⟩ := h
    have ih := og_sp hs
    by_cases hd : (decA mOwn (C.bd ys)).2 = true ∧ (decA mOwn (C.bd ys)).1 ≠ []
    · have e : dAll (C.bd ys :: fs) = (dAll fs).map ((decA mOwn (C.bd ys)).1 :: ·) := by rw [dAll, if_pos hd]
      have e2 : decA mOwn (C.bd ys) = ((decA mOwn (C.bd ys)).1, true) := by rw [← hd.1]
      refine ⟨fun Fs hF => ?_, fun hF => ?_⟩
      · rw [e] at hF
        cases hx : dAll fs with
        | none => rw [hx] at hF; cases hF
        | some Gs =>
          rw [hx] at hF
          simp only [Option.map_some, Option.some.injEq] at hF
          rw [← hF]
          exact Og.more h0 e2 hd.2 (ih.1 Gs hx)
      · rw [e] at hF
        cases hx : dAll fs with
        | none =>
          obtain ⟨Gs, hG⟩ := ih.2 hx
          exact ⟨_, Og.more h0 e2 hd.2 hG⟩
        | some Gs => rw [hx] at hF; cases hF
    · have e : dAll (C.bd ys :: fs) = none := by rw [dAll, if_neg hd]
      refine ⟨(fun Fs hF => by rw [e] at hF; cases hF), fun _ => ⟨[], Og.wrong h0 ?_⟩⟩
      by_cases h2 : (decA mOwn (C.bd ys)).2 = true
      · exact .inr (by
          by_cases h3 : (decA mOwn (C.bd ys)).1 = []
          · exact h3
          · exact absurd ⟨h2, h3⟩ hd)
      · exact .inl (by simpa using h2)
/-- What bytes tell, by the frames that Split finds. -/
def tlOf (fs : List (List Int)) (t : Nat) : Option (Int × List (List Opn)) :=
  match fs with
  | [] => none
  | f :: fs => if t = 2 then none else if rfO f = true then (dAll fs).map ((rfV f, ·)) else none
theorem tl_sp {fs : List (List Int)} {xs : List Int} {n t : Nat} (h : C.Sp xs fs n t) : Tl xs (tlOf fs t) := by
  cases fs with
  | nil =>
    refine .inl ?_
    rcases h.2 with ⟨h1, _⟩ | ⟨_, h2, _⟩
    · subst h1; decide
    · exact h2
  | cons f fs =>
    obtain ⟨h0, rfl, m, _, hs⟩ := h
    have ho := og_sp hs
    unfold tlOf
    by_cases h2 : t = 2
    · simp only [h2, if_true]
      cases hx : dAll fs with
      | none => exact .inr (.inr (ho.2 hx))
      | some Gs =>
        have := ho.1 Gs hx
        rw [h2] at this
        exact .inr (.inr ⟨Gs, this⟩)
    · simp only [h2, if_false]
      cases hr : rfO (C.bd xs) with
      | false => exact .inr (.inl hr)
      | true =>
        simp only [if_true]
        cases hx : dAll fs with
        | none => exact .inr (.inr (ho.2 hx))
        | some Gs =>
          have := ho.1 Gs hx
          rw [show decide (t ≠ 2) = true by simpa using h2] at this
          exact ⟨h0, hr, rfl, this⟩
end Go.Proofs.YteckjkblngmenaaGreatDoor

/-
  What the frames that Split finds take, and what they tell one by one: plain mathematics.
-/
namespace Go.Proofs.YteckjkblngmenaaGreatDoor
open Go.RowKit
set_option linter.unusedVariables false
set_option maxRecDepth 100000

theorem dAll_cons_ok {f : List Int} {fs : List (List Int)} {Gs : List (List Opn)} (h : dAll fs = some Gs) (h1 : (decA mOwn f).2 = true) (h2 : (decA mOwn f).1 ≠ []) : dAll (f :: fs) = some ((decA mOwn f).1 :: Gs) := by
  rw [dAll, if_pos ⟨h1, h2⟩, h]; rfl
theorem dAll_cons_inv {f : List Int} {fs : List (List Int)} {Fs : List (List Opn)} (h : dAll (f :: fs) = some Fs) : (decA mOwn f).2 = true ∧ (decA mOwn f).1 ≠ [] ∧ ∃ Gs, dAll fs = some Gs ∧ Fs = (decA mOwn f).1 :: Gs := by
  rw [dAll] at h
  by_cases hd : (decA mOwn f).2 = true ∧ (decA mOwn f).1 ≠ []
  · rw [if_pos hd] at h
    cases hx : dAll fs with
    | none => rw [hx] at h; cases h
    | some Gs =>
      rw [hx] at h
      simp only [Option.map_some, Option.some.injEq] at h
      exact ⟨hd.1, hd.2, Gs, rfl, h.symm⟩
  · rw [if_neg hd] at h; cases h
theorem dAll_snoc {f : List Int} (h1 : (decA mOwn f).2 = true) (h2 : (decA mOwn f).1 ≠ []) : ∀ {fs : List (List Int)} {Gs : List (List Opn)}, dAll fs = some Gs → dAll (fs ++ [f]) = some (Gs ++ [(decA mOwn f).1])
  | [], Gs, h => by
    have e : Gs = [] := by simpa [dAll] using h.symm
    subst e
    exact dAll_cons_ok (fs := []) rfl h1 h2
  | g :: fs, Gs, h => by
    obtain ⟨k1, k2, Hs, k3, rfl⟩ := dAll_cons_inv h
    exact dAll_cons_ok (dAll_snoc h1 h2 k3) k1 k2
theorem dAll_bad {f : List Int} (hf : (decA mOwn f).2 = false ∨ (decA mOwn f).1 = []) : ∀ {fs : List (List Int)}, f ∈ fs → dAll fs = none
  | [], h => by cases h
  | g :: fs, h => by
    cases hx : dAll (g :: fs) with
    | none => rfl
    | some Gs =>
      obtain ⟨k1, k2, Hs, k3, -⟩ := dAll_cons_inv hx
      rcases List.mem_cons.1 h with rfl | h
      · rcases hf with e | e
        · rw [k1] at e; cases e
        · exact absurd e k2
      · rw [dAll_bad hf h] at k3; cases k3
theorem sp_mem : ∀ {fs : List (List Int)} {ys : List Int} {n t : Nat}, C.Sp ys fs n t → Byt ys → ∀ f ∈ fs, Byt f ∧ f.length ≤ 65536
  | [], ys, n, t, h, hb => fun f hf => by cases hf
  | g :: fs, ys, n, t, h, hb => by
    obtain ⟨h0, rfl, m, _, hs⟩ := h
    intro f hf
    rcases List.mem_cons.1 hf with rfl | hf
    · obtain ⟨_, _, h65, _, hl⟩ := wh_0 h0
      exact ⟨fun x hx => hb x (List.mem_of_mem_drop (List.mem_of_mem_take hx)), by rw [hl]; exact h65⟩
    · exact sp_mem hs (fun x hx => hb x (List.mem_of_mem_drop hx)) f hf
theorem enc_of_dec {f : List Int} (hb : Byt f) (hl : f.length ≤ 65536) (h : (decA mOwn f).2 = true) : encA (decA mOwn f).1 = f ∧ (∀ o ∈ (decA mOwn f).1, rightO o = true) ∧ (decA mOwn f).1.length ≤ 1048576 := by
  have e : decA mOwn f = ((decA mOwn f).1, true) := by rw [← h]
  exact decA_own hb hl e
theorem sp_sz : ∀ {fs : List (List Int)} {ys : List Int} {n t : Nat}, C.Sp ys fs n t → Byt ys → ∀ {Fs : List (List Opn)}, dAll fs = some Fs → n = szF Fs ∧ Good Fs
  | [], ys, n, t, h, hb, Fs, hd => by
    have e : Fs = [] := by simpa [dAll] using hd.symm
    subst e
    exact ⟨h.1, Good.nil⟩
  | f :: fs, ys, n, t, h, hb, Fs, hd => by
    have hm := sp_mem h hb f (by simp)
    obtain ⟨h0, rfl, m, rfl, hs⟩ := h
    obtain ⟨k1, k2, Gs, k3, rfl⟩ := dAll_cons_inv hd
    obtain ⟨e1, g1⟩ := sp_sz hs (fun x hx => hb x (List.mem_of_mem_drop hx)) k3
    obtain ⟨_, _, _, _, hl⟩ := wh_0 h0
    obtain ⟨e2, g2, _⟩ := enc_of_dec hm.1 hm.2 k1
    refine ⟨by rw [szF_cons, e2, hl, ← e1], fun g hg => ?_⟩
    rcases List.mem_cons.1 hg with rfl | hg
    · exact ⟨k2, g2, by rw [e2]; exact hm.2⟩
    · exact g1 g hg
/-- The frames' count and bytes are few. -/
theorem sp_len : ∀ {fs : List (List Int)} {ys : List Int} {n t : Nat}, C.Sp ys fs n t → 8 * fs.length ≤ n ∧ n ≤ ys.length
  | [], ys, n, t, h => by
    have := h.1
    simp only [List.length_nil]
    omega
  | f :: fs, ys, n, t, h => by
    obtain ⟨h0, rfl, m, rfl, hs⟩ := h
    have ih := sp_len hs
    obtain ⟨h8, hw, h65, _, hl⟩ := wh_0 h0
    rw [List.length_drop] at ih
    rw [List.length_cons]
    omega
/-- What Read tells, once the first frame is there. -/
theorem tl_first {f : List Int} {fs : List (List Int)} {xs : List Int} {n t : Nat} (h : C.Sp xs (f :: fs) n t) (hb : Byt xs) (ht : t ≠ 2) (hr : rfO f = true) : 0 ≤ rfV f ∧ rfV f ≤ 15 ∧ f.length = 2 ∧ (∀ Fs,dAll fs = some Fs → Tl xs (some (rfV f,Fs)) ∧ n = 10 + szF Fs ∧ Good Fs) ∧ (dAll fs = none → Tl xs none) := by
  have hm := sp_mem h hb f (by simp)
  obtain ⟨r0, r1, e⟩ := rfO_sound hm.1 hr
  have hl2 : f.length = 2 := by rw [e]; exact fb0_len r0 r1
  have htl := tl_sp h
  unfold tlOf at htl
  dsimp only at htl
  rw [if_neg ht, if_pos hr] at htl
  obtain ⟨h0, he, m, rfl, hs⟩ := h
  obtain ⟨_, _, _, _, hl⟩ := wh_0 h0
  rw [← he] at hl
  refine ⟨r0, r1, hl2, fun Fs hF => ?_, fun hF => ?_⟩
  · rw [hF] at htl
    obtain ⟨e1, g1⟩ := sp_sz hs (fun x hx => hb x (List.mem_of_mem_drop hx)) hF
    exact ⟨htl, by omega, g1⟩
  · rw [hF] at htl
    exact htl
theorem tl_wrong {f : List Int} {fs : List (List Int)} {xs : List Int} {n t : Nat} (h : C.Sp xs (f :: fs) n t) (hr : t = 2 ∨ rfO f = false) : Tl xs none := by
  have htl := tl_sp h
  unfold tlOf at htl
  dsimp only at htl
  by_cases ht : t = 2
  · rw [if_pos ht] at htl; exact htl
  · rw [if_neg ht, if_neg (by rcases hr with e | e; · exact absurd e ht
                              · rw [e]; decide)] at htl
    exact htl
theorem tl_nil {xs : List Int} {n t : Nat} (h : C.Sp xs [] n t) : Tl xs none := tl_sp h
theorem sp_front : ∀ {fs gs : List (List Int)} {ys : List Int} {n t : Nat}, C.Sp ys (fs ++ gs) n t → Byt ys → ∀ {Fs : List (List Opn)}, dAll fs = some Fs → szF Fs ≤ n
  | [], gs, ys, n, t, h, hb, Fs, hd => by
    have e : Fs = [] := by simpa [dAll] using hd.symm
    subst e
    exact Nat.zero_le _
  | f :: fs, gs, ys, n, t, h, hb, Fs, hd => by
    have hm := sp_mem h hb f (by simp)
    obtain ⟨h0, rfl, m, rfl, hs⟩ := h
    obtain ⟨k1, k2, Gs, k3, rfl⟩ := dAll_cons_inv hd
    have e1 := sp_front hs (fun x hx => hb x (List.mem_of_mem_drop hx)) k3
    obtain ⟨_, _, _, _, hl⟩ := wh_0 h0
    obtain ⟨e2, g2, _⟩ := enc_of_dec hm.1 hm.2 k1
    rw [szF_cons, e2, hl]
    omega
/-- Where the frames that are told end. -/
theorem tl_pos {fs : List (List Int)} {xs : List Int} {n t : Nat} (h : C.Sp xs fs n t) (hb : Byt xs) {r : Int} {Fs : List (List Opn)} (k : Tl xs (some (r, Fs))) : n = 10 + szF Fs := by
  cases fs with
  | nil => have := Tl.det (tl_nil h) k; cases this
  | cons f fs =>
    by_cases ht : t = 2
    · have := Tl.det (tl_wrong h (.inl ht)) k; cases this
    · cases hr : rfO f with
      | false => have := Tl.det (tl_wrong h (.inr hr)) k; cases this
      | true =>
        obtain ⟨_, _, _, h1, h2⟩ := tl_first h hb ht hr
        cases hx : dAll fs with
        | none => have := Tl.det (h2 hx) k; cases this
        | some Gs =>
          obtain ⟨e1, e2, _⟩ := h1 Gs hx
          have := Tl.det e1 k
          simp only [Option.some.injEq, Prod.mk.injEq] at this
          rw [← this.2]
          exact e2
/-- Bytes that tell a log begin with that log's. -/
theorem og_bytes {r : Int} : ∀ {Gs Fs : List (List Opn)} {ys : List Int} {t : Bool}, Good Fs → Byt ys → Og ys Gs t → ∃ zs, lby r Fs ++ ys = lby r (Fs ++ Gs) ++ zs
  | [], Fs, ys, t, hg, hb, h => ⟨ys, by rw [List.append_nil]⟩
  | f :: Gs, Fs, ys, t, hg, hb, h => by
    obtain ⟨h0, hd, hne, ho⟩ := h
    obtain ⟨g1, e1, _⟩ := og_step (r := r) hb hg h0 hd hne
    obtain ⟨zs, e2⟩ := og_bytes g1 (fun x hx => hb x (List.mem_of_mem_drop hx)) ho
    refine ⟨zs, ?_⟩
    rw [e1, e2, List.append_assoc]
    rfl
theorem tl_bytes {xs : List Int} {r : Int} {Fs : List (List Opn)} (hb : Byt xs) (h : Tl xs (some (r, Fs))) : xs.take (10 + szF Fs) = lby r Fs := by
  obtain ⟨h0, h1, rfl, h2⟩ := h
  obtain ⟨r0, r1, e10, e⟩ := first_of hb h0 h1
  rw [e10] at h2
  obtain ⟨zs, e2⟩ := og_bytes (r := rfV (C.bd xs)) Good.nil (fun x hx => hb x (List.mem_of_mem_drop hx)) h2
  rw [e2, List.nil_append] at e
  have hl := lby_len r0 r1 Fs
  calc xs.take (10 + szF Fs) = (lby (rfV (C.bd xs)) Fs ++ zs).take (10 + szF Fs) := by rw [← e]
    _ = lby (rfV (C.bd xs)) Fs := by rw [← hl, List.take_left]
end Go.Proofs.YteckjkblngmenaaGreatDoor

/-
  The library's functions that the program calls, by the library's own contracts, at this program's numbers.
-/
namespace Go.Proofs
open Go.Shelf
def Tryz.laysM316_ren : Go.Shelf.Ren := ⟨fun | 316 => 128 | n => n, fun | 9 => 9 | 3 => 3 | 4 => 4 | 37 => 36 | 0 => 0 | 127 => 172 | 5 => 5 | n => n, fun | n => n⟩
theorem Tryz.laysM316 : Go.Proofs.LaysM.n316 Tryz.prog Tryz.laysM316_ren := {
  mixed := by kernel_rfl
  f316 := Tryz.func128.trans (congrArg some (by kernel_rfl))
  t0 := Tryz.underlying0
  a0 := Tryz.isAgg0
  z0 := Tryz.sizeOf0
  v0 := Tryz.zeroValue0
  t3 := Tryz.underlying3
  a3 := Tryz.isAgg3
  z3 := Tryz.sizeOf3
  v3 := Tryz.zeroValue3
  t4 := Tryz.underlying4
  a4 := Tryz.isAgg4
  z4 := Tryz.sizeOf4
  v4 := Tryz.zeroValue4
  t9 := Tryz.underlying9
  a9 := Tryz.isAgg9
  z9 := Tryz.sizeOf9
  v9 := Tryz.zeroValue9
  t37 := Tryz.underlying36
  a37 := Tryz.isAgg36
  z37 := Tryz.sizeOf36
  v37 := Tryz.zeroValue36
  t127 := Tryz.underlying172
  a127 := Tryz.isAgg172
  z127 := Tryz.sizeOf172
  v127 := Tryz.zeroValue172
  t5 := Tryz.underlying5
  a5 := Tryz.isAgg5
  z5 := Tryz.sizeOf5
  v5 := Tryz.zeroValue5
  i0 := by kernel_rfl
  i3 := by kernel_rfl
  i4 := by kernel_rfl
  i5 := by kernel_rfl
  i9 := by kernel_rfl
  i37 := by kernel_rfl
  i127 := by kernel_rfl }
open Go.RowKit in
theorem Tryz.stringslite_Clone (s : ByteArray) (w : World) (hlim : s.size ≤ 281474976710656) :
    Calls Tryz.prog 128 #[.string s] w fun e w' => e = .returned (.string s) ∧ Below w.heap.size w w' := Any.stringslite_Clone Tryz.laysM316 s w hlim
end Go.Proofs
