/-
  Parts of the proof, one behind the other; what each proves stands at its head.
-/
import Derived.Test.YtniecbblhphbdaaDoorPart3
import Derived.Test.YtniecbblhphbdaaDoorPart2
import Derived.Test.YtniecbblhphbdaaDoorPart1
import Derived.Laws.AppendOwnNone
import Derived.Test.YtniecbblhphbdaaDoorPart11

/-
  What the reference's Put and PutText return is proved here: Put for every number, PutText for texts of at most 2^46 bytes.
-/
namespace Go.Proofs.YtniecbblhphbdaaDoor
open Go.RowKit
set_option linter.unusedVariables false
set_option maxRecDepth 100000

theorem cs_append (a b : List Int) : cs (a ++ b) = cs a ++ cs b := by simp [cs]
theorem bd_succ (k : Nat) : M.bd k * 128 = M.bd (k + 1) := by unfold M.bd; rw [Int.pow_succ]
theorem bd_small {k : Nat} (h : k ≤ 6) : 0 ≤ M.bd k ∧ M.bd k ≤ 4398046511104 := by
  have := M.ipow_le 128 (b := k) (c := 6) (by decide) h
  have h0 : (0 : Int) ≤ 128 ^ k := Int.le_of_lt (Int.pow_pos (by decide))
  unfold M.bd
  exact ⟨h0, this⟩
theorem mask_step {j : Nat} (h : j ≤ 5) : M.mask (j + 1) + 128 / 2 ^ j = M.mask (j + 2) := by
  have : j = 0 ∨ j = 1 ∨ j = 2 ∨ j = 3 ∨ j = 4 ∨ j = 5 := by omega
  rcases this with rfl | rfl | rfl | rfl | rfl | rfl <;> decide
theorem mask_small {k : Nat} (h1 : 1 ≤ k) (h7 : k ≤ 7) : 0 ≤ M.mask k ∧ M.mask k ≤ 252 := by
  rcases M.seven ⟨h1, h7⟩ with rfl | rfl | rfl | rfl | rfl | rfl | rfl <;> decide
theorem mask_room {k : Nat} {x : Int} (h1 : 1 ≤ k) (h7 : k ≤ 7) (hx : x < 2 ^ (8 - k)) : x + M.mask k < 256 := by
  rcases M.seven ⟨h1, h7⟩ with rfl | rfl | rfl | rfl | rfl | rfl | rfl <;> simp [M.mask] at hx ⊢ <;> omega

set_option maxHeartbeats 400000 in
theorem refput_wrong (n : Int) (w : World) (h : n < 0 ∨ 562949953421312 ≤ n) :
    Calls Tryd.prog 60 #[.int .i64 n] w fun e w' => e = .returned (.tuple #[.slice none 0 0, .bool false]) ∧ w = w' := by
  by_cases h0 : n < 0
  · clear h
    go_enter Tryd.func60, Tryd.ntmps60
    go_wp2
    go_ret2
    exact ⟨rfl, rfl⟩
  · have h1 : 562949953421311 < n := by omega
    clear h
    go_enter Tryd.func60, Tryd.ntmps60
    go_wp2
    go_ret2
    exact ⟨rfl, rfl⟩

set_option maxHeartbeats 2000000 in
theorem refput_right (n : Int) (w : World) (h0 : 0 ≤ n) (h1 : n < 562949953421312) :
    Calls Tryd.prog 60 #[.int .i64 n] w fun e w' => ∃ g, e = .returned (.tuple #[.slice (some ⟨g, 0, none⟩) (M.sz n) (M.sz n), .bool true]) ∧
      w'.ownsRow w.heap.size 5 1 (.slice (some ⟨g, 0, none⟩) (M.sz n) (M.sz n)) (M.sz n) (cs (M.enc n)) ∧ Below w.heap.size w w' := by
  have hk1 := M.sz_pos n
  have hsz := fun (k : Nat) (h1 : 1 ≤ k) (h7 : k ≤ 7) hl hu => M.sz_of (n := n) (k := k) h1 h7 hl hu
  obtain ⟨i0, hi, hz0, hz1, hz2⟩ := info_parts info_u8
  have h2 : ¬ 562949953421311 < n := by omega
  have HSZ := hid hsz
  clear hsz
  go_enter Tryd.func60, Tryd.ntmps60
  go_wp2
  go_loop [4, 5] (fun c l => ∃ k : Nat, 1 ≤ k ∧ k ≤ 7 ∧ c = .int .i64 k ∧ l = .int .i64 (M.bd k) ∧ (k = 1 ∨ M.bd (k - 1) ≤ n)) (fun c _ => 7 - (intOf c).toNat)
  case atStart => exact ⟨1, by omega, by omega, rfl, rfl, .inl rfl⟩
  case round =>
    obtain ⟨k, hk, hk7, rfl, rfl, hb⟩ := hrel
    have HB := hid hb
    clear hb
    by_cases hn : M.bd k ≤ n
    · have hk6 : k ≤ 6 := by
        by_cases e : k = 7
        · subst e; have : M.bd 7 = 562949953421312 := rfl; omega
        · omega
      have hbs := bd_small hk6
      have hs := hid (bd_succ k)
      go_wp2
      go_round
      case rel => exact ⟨k + 1, by omega, by omega, by go_num, by rw [← hs.out], .inr (by simpa using hn)⟩
      case measure => simp [intOf]; omega
    · have hk' : M.sz n = k := HSZ.out k hk hk7 HB.out (by
        by_cases e : k = 7
        · exact .inl e
        · exact .inr (by omega))
      have HK := hid hk'
      clear hk' HSZ HB
      have hkb : i0.bytes * k ≤ 281474976710656 := by rw [hz2]; omega
      have hkm : k ≤ maxLen := by unfold maxLen; omega
      go_wp2_with (at_make; refine wpList_make_full _ rfl (.tmp 23) (.tmp 23) 22 rfl _ 5 i0 (.int .u8 0) 1 Tryd.underlying22 hi hz0 hz1 .i64 .i64 _ _ k rfl rfl (by simp) (by simp) hkb hkm (Nat.le_refl _) ?_; intro w1 hown hgrow)
      have hrow : w1.ownsRow w.heap.size 5 1 (.slice (some ⟨w.heap.size, 0, none⟩) k k) k (cs (List.replicate (k - 0) 0 ++ M.be 0 n)) := by
        have e : (madeCells #[Value.int .u8 0] (k * 1)).toList = cs (List.replicate (k - 0) 0 ++ M.be 0 n) := by simp [toList_madeCells_one, M.be]
        rw [← e]; exact hown
      have hbel : Below w.heap.size w w1 := (Below.refl _ w).grown hgrow (Nat.le_refl _) (by intro k hk; cases hk)
      clear hown hgrow
      go_loopw [0, 7] (fun nn i wr => ∃ m j : Nat, m + j = k ∧ i = .int .i64 ((m : Int) - 1) ∧ nn = .int .i64 (n / 256 ^ j) ∧
          wr.ownsRow w.heap.size 5 1 (.slice (some ⟨w.heap.size, 0, none⟩) k k) k (cs (List.replicate m 0 ++ M.be j n)) ∧ Below w.heap.size w wr) (fun _ i _ => (intOf i + 1).toNat)
      case atStart => exact ⟨k, 0, by omega, rfl, by simp, by simpa using hrow, hbel⟩
      case round =>
        clear hrow hbel
        obtain ⟨m, j, hmj, rfl, rfl, hrow, hbel⟩ := hrel
        by_cases hm : m = 0
        · subst hm
          go_wp2
          go_loop [8, 9] (fun o i => ∃ j : Nat, j ≤ k - 1 ∧ i = .int .i64 j ∧ o = .int .i64 (M.mask (j + 1))) (fun _ i => k - (intOf i).toNat)
          case atStart => exact ⟨0, by omega, rfl, rfl⟩
          case round =>
            obtain ⟨t, ht, rfl, rfl⟩ := hrel
            have hms := mask_small (k := t + 1) (by omega) (by omega)
            by_cases htk : t < k - 1
            · have hst := hid (mask_step (j := t) (by omega))
              go_wp2
              go_round
              case rel =>
                refine ⟨t + 1, by omega, by go_num, ?_⟩
                have hm2 := mask_small (k := t + 2) (by omega) (by omega)
                rw [hst.out, show wrap64 (M.mask (t + 2)) = M.mask (t + 2) by unfold wrap64; omega]
              case measure => simp [intOf]; omega
            · obtain rfl : t = k - 1 := by omega
              obtain rfl : j = k := by omega
              have ek : j - 1 + 1 = j := by omega
              rw [ek] at hms ⊢
              obtain ⟨x, r, hx⟩ : ∃ x r, M.be j n = x :: r := by
                cases j with
                | zero => omega
                | succ j => exact ⟨_, _, rfl⟩
              have hrow2 := hrow
              rw [List.replicate_zero, List.nil_append, hx] at hrow2
              have hcell : wr.cell? ⟨w.heap.size, 0, none⟩ = some (.int .u8 x) := by rw [hrow2.cellAt 0 (by omega)]; rfl
              have hfz := hrow2.frozenAt 0
              have hxr := M.be_head h0 h1 HK.out hx
              have hx0 := hxr.1
              have hx1 := mask_room hk hk7 hxr.2
              have HX := hid hx
              have HR := hid hrow2
              clear hx hrow hrow2 hxr hkb hkm ek
              have hp : (0 : Int) < (j : Int) := by omega
              go_wp2
              go_ret2
              have hs := (World.ownsRow.stored HR.out 0 (.int .u8 (x + M.mask (M.sz n)))).1
              refine ⟨w.heap.size, by rw [HK.out]; rfl, ?_, hbel.setCell (Nat.le_refl _) _⟩
              rw [M.enc, M.encK, HK.out, HX.out]
              rw [HK.out] at hs
              exact hs
        · obtain ⟨m', rfl⟩ : ∃ m', m = m' + 1 := ⟨m - 1, by omega⟩
          rw [show (((m' + 1 : Nat) : Int) - 1) = (m' : Int) from by omega]
          have hcell := hrow.cellAt m' (by omega)
          have hfz := hrow.frozenAt m'
          have hst := hrow.stored m'
          have HS := hid hst
          clear hst
          have hc2 : wr.cell? ⟨w.heap.size, m', none⟩ = some (.int .u8 0) := by rw [hcell]; exact row_at _ _ _
          have hq0 : 0 ≤ n / 256 ^ j := Int.ediv_nonneg h0 (Int.le_of_lt (Int.pow_pos (by decide)))
          have hq1 : n / 256 ^ j ≤ n := Int.ediv_le_self _ h0
          clear hcell
          go_wp2
          go_roundw
          case rel =>
            have hs := HS.out (.int .u8 (n / 256 ^ j % 256))
            refine ⟨m', j + 1, by omega, rfl, ?_, ?_, hbel.setCell (Nat.le_refl _) _⟩
            · rw [Int.pow_succ, Int.ediv_ediv_of_nonneg (by exact Int.le_of_lt (Int.pow_pos (by decide)))]
            · have e := hs.1
              rw [row_set] at e
              exact e
          case measure => simp [intOf]


theorem refput_bs (n : Int) (w : World) (h0 : 0 ≤ n) (h1 : n < 562949953421312) :
    Calls Tryd.prog 60 #[.int .i64 n] w fun e w' => ∃ v, e = .returned (.tuple #[v, .bool true]) ∧ Bs w' v (M.enc n) ∧ Below w.heap.size w w' :=
  (refput_right n w h0 h1).mono fun _ _ ⟨_, he, ho, hb⟩ => ⟨_, he, Bs.of_own ho (M.enc_byte n h0 h1), hb⟩

theorem ofStr_step (s : ByteArray) (k : Nat) (h : k < s.size) : (M.ofStr s).take (k + 1) = (M.ofStr s).take k ++ [((s[k]).toNat : Int)] := by
  rw [List.take_succ_eq_append_getElem (by rw [M.ofStr_length]; exact h)]
  congr 1
  simp [M.ofStr]
  rfl

set_option maxHeartbeats 1000000 in
theorem refputtext_bs (s : ByteArray) (w : World) (hs : s.size ≤ 70368744177664) :
    Calls Tryd.prog 44 #[.string s] w fun e w' => ∃ v, e = .returned v ∧ Bs w' v (M.encText s) ∧ Below w.heap.size w w' := by
  obtain ⟨i0, hi, hz0, hz1, hz2⟩ := info_parts info_u8
  have hsz := M.sz_pos s.size
  go_enter Tryd.func44, Tryd.ntmps44
  go_wp2_with fail
  refine (refput_right s.size _ (by omega) (by omega)).mono ?_
  rintro e w1 ⟨g, rfl, hown, b1⟩
  obtain ⟨m, hm⟩ : ∃ m, M.sz s.size = m := ⟨_, rfl⟩
  rw [hm] at hsz hown ⊢
  clear hm
  go_wp2
  go_loopw [3, 5] (fun v i wr => ∃ k : Nat, k ≤ s.size ∧ i = .int .i64 k ∧ wr.ownsRow w.heap.size 5 1 v (m + k) (cs (M.enc s.size ++ (M.ofStr s).take k)) ∧ Below w.heap.size w wr) (fun _ i _ => s.size - (intOf i).toNat)
  case atStart => exact ⟨0, Nat.zero_le _, rfl, by simpa using hown, b1⟩
  case round =>
    clear hown b1
    obtain ⟨k, hk, rfl, hown, bel⟩ := hrel
    by_cases hlt : k < s.size
    · have hst := hid (ofStr_step s k hlt)
      have hown1 := hown.alloc (.cells #[.int .u8 ((s[k]).toNat : Int)] 5)
      go_wp2_with (at_builtin; refine wpList_append_own _ rfl (.tmp 18) (.tmp 22) 22 rfl w.heap.size 5 i0 (.int .u8 0) 1 1 Tryd.underlying22 hi hz0 hz1 hz2 rfl (by decide) _ _ _ rfl hown1 ⟨wr.heap.size, 0, none⟩ 1 1 (cs [((s[k]).toNat : Int)]) rfl rfl ?c1 ?c2 ?c3 ?c4 ?c5 ?_)
      case c1 =>
        intro j u hj
        match j, hj with
        | 0, hj => simp at hj; subst hj; simp [Addr.add]
      case c2 => intro u hu; simp at hu; subst hu; rfl
      case c3 => unfold maxLen; omega
      case c4 => omega
      case c5 => have := bel.size; simp; omega
      intro v' w2 hown2 hgrow _
      have b2 : Below w.heap.size w w2 := (bel.alloc bel.size _).grown hgrow (by have := bel.size; simp; omega) (fun k hk => (hown.lt k hk).1)
      have H2 := hid hown2
      clear hown2 hown hown1 hgrow bel
      go_wp2
      go_roundw
      case rel =>
        have e2 : w2.ownsRow w.heap.size 5 1 v' (m + (k + 1)) (cs (M.enc s.size ++ (M.ofStr s).take (k + 1))) := by
          have e : cs (M.enc s.size ++ (M.ofStr s).take (k + 1)) = (M.enc s.size).map (Value.int .u8) ++ (((M.ofStr s).map (Value.int .u8)).take k ++ [Value.int .u8 ((s[k]).toNat : Int)]) := by
            rw [hst.out]; simp [cs]
          rw [e, ← Nat.add_assoc]
          exact H2.out
        have R : ∃ k' : Nat, k' ≤ s.size ∧ Value.int .i64 ((k : Int) + 1) = .int .i64 k' ∧ w2.ownsRow w.heap.size 5 1 v' (m + k') (cs (M.enc s.size ++ (M.ofStr s).take k')) ∧ Below w.heap.size w w2 :=
          ⟨k + 1, by omega, by go_num, e2, b2⟩
        first | exact R | ((repeat apply Exists.intro); exact ⟨R, rfl⟩)
      case measure => simp [intOf]; omega
    · have e : k = s.size := by omega
      go_wp2
      go_ret
      refine ⟨_, rfl, ?_, bel⟩
      refine Bs.of_own (n := m + k) (base := w.heap.size) (e := 5) ?_ (encText_byte s hs)
      rw [List.take_of_length_le (by rw [M.ofStr_length]; omega)] at hown
      exact hown

end Go.Proofs.YtniecbblhphbdaaDoor

/-
  What the reference's cursor answers to Num is proved here, for every cursor that is over nothing when it is lost.
-/
namespace Go.Proofs.YtniecbblhphbdaaDoor
open Go.RowKit
set_option linter.unusedVariables false
set_option maxRecDepth 100000

set_option maxHeartbeats 400000 in
theorem reflose_any (b : Nat) (xs : List Int) (lost : Bool) (w : World) (h : Cur 66 w b xs lost) :
    Calls Tryd.prog 59 #[.pointer (some ⟨b, 0, none⟩)] w fun e w' => e = .returned (.tuple #[]) ∧ Cur 66 w' b [] true ∧ w.grownBy w' (some b) := by
  obtain ⟨a, c, hB, hc0, hc1, hf0, hf1⟩ := h.cells
  have h1 := h.set1 (l' := true)
  have h2 := h1.1.set0 (Bs.nil _)
  have H1 := hid h1
  have H2 := hid h2
  clear h1 h2 hB h
  go_enter Tryd.func59, Tryd.ntmps59
  go_wp2
  go_end0
  exact ⟨rfl, H2.out.1, H1.out.2.trans H2.out.2⟩

/-- The reference's first loop: how many ones a byte begins with. -/
theorem cnt_stop {b : Int} {k : Nat} (h0 : 0 ≤ b) (h1 : b < 256) (hk1 : 1 ≤ k) (hk8 : k ≤ 8) (hm : M.mask k ≤ b) (he : k = 8 ∨ b - M.mask k < 2 ^ (8 - k)) :
    (k = 8 → 7 < M.cnt b) ∧ (k ≤ 7 → M.cnt b = k ∧ b - M.mask k = b % 2 ^ (8 - k)) := by
  have : k = 1 ∨ k = 2 ∨ k = 3 ∨ k = 4 ∨ k = 5 ∨ k = 6 ∨ k = 7 ∨ k = 8 := by omega
  rcases this with rfl | rfl | rfl | rfl | rfl | rfl | rfl | rfl <;> simp [M.mask] at hm he ⊢ <;> unfold M.cnt <;> (first | (refine ⟨?_, by omega⟩; (repeat' split) <;> omega) | ((repeat' split) <;> omega))

theorem mask_next {k : Nat} (hk1 : 1 ≤ k) (hk7 : k ≤ 7) : M.mask k + 2 ^ (8 - k) = M.mask (k + 1) ∧ (2 : Int) ^ (8 - k) / 2 = 2 ^ (8 - (k + 1)) ∧ (0 : Int) ≤ 2 ^ (8 - k) ∧ (2 : Int) ^ (8 - k) ≤ 128 := by
  rcases M.seven ⟨hk1, hk7⟩ with rfl | rfl | rfl | rfl | rfl | rfl | rfl <;> decide

/-- The reference takes a number. -/
theorem first_cons {b : Int} {r : List Int} {k : Nat} (hk : M.cnt b = k) : M.first (b :: r) = if 7 < k ∨ r.length + 1 < k then none else
    if M.sz (M.fold (b % 2 ^ (8 - k)) (r.take (k - 1))) = k then some (M.fold (b % 2 ^ (8 - k)) (r.take (k - 1)), k) else none := by
  rw [M.first, hk]

theorem numOk_none {most : Int} {xs : List Int} (h : M.first xs = none) : M.numV most xs = 0 ∧ M.numS most xs = [] ∧ ∀ l, M.numL most xs l = true := by
  have : M.numOk most xs = false := by simp [M.numOk, M.fo, h]
  simp [M.numV, M.numS, M.numL, this]
theorem numOk_above {most n : Int} {k : Nat} {xs : List Int} (h : M.first xs = some (n, k)) (hn : most < n) : M.numV most xs = 0 ∧ M.numS most xs = [] ∧ ∀ l, M.numL most xs l = true := by
  have : M.numOk most xs = false := by simp [M.numOk, M.fo, M.fn, h]; omega
  simp [M.numV, M.numS, M.numL, this]
theorem numOk_some {most n : Int} {k : Nat} {xs : List Int} (h : M.first xs = some (n, k)) (hn : n ≤ most) : M.numV most xs = n ∧ M.numS most xs = xs.drop k ∧ ∀ l, M.numL most xs l = l := by
  have : M.numOk most xs = true := by simp [M.numOk, M.fo, M.fn, h]; omega
  simp [M.numV, M.numS, M.numL, this, M.fn, M.fc, h]

theorem fold_right_k {x : Int} {r : List Int} {k : Nat} (hk1 : 1 ≤ k) (hk7 : k ≤ 7) (hr : ∀ y ∈ r, 0 ≤ y ∧ y < 256) :
    0 ≤ M.fold (x % 2 ^ (8 - k)) (r.take (k - 1)) ∧ M.fold (x % 2 ^ (8 - k)) (r.take (k - 1)) < 562949953421312 := by
  have hp : (0 : Int) < 2 ^ (8 - k) := Int.pow_pos (by decide)
  have h := M.fold_bound (2 ^ (8 - k)) (r.take (k - 1)) (fun y hy => hr y (List.mem_of_mem_take hy)) (x % 2 ^ (8 - k)) (Int.emod_nonneg _ (Int.ne_of_gt hp)) (Int.emod_lt_of_pos _ hp)
  have h2 : (256 : Int) ^ (r.take (k - 1)).length ≤ 256 ^ (k - 1) := M.pow256_le (List.length_take_le _ _)
  have h3 : (2 : Int) ^ (8 - k) * 256 ^ (r.take (k - 1)).length ≤ 2 ^ (8 - k) * 256 ^ (k - 1) := Int.mul_le_mul_of_nonneg_left h2 (Int.le_of_lt hp)
  have hlt : (2 : Int) ^ (8 - k) * 256 ^ (k - 1) ≤ 562949953421312 := by
    rcases M.seven ⟨hk1, hk7⟩ with e | e | e | e | e | e | e <;> rw [e] <;> decide
  exact ⟨h.1, by omega⟩

set_option maxHeartbeats 4000000 in
set_option maxRecDepth 100000 in
theorem refnum_any (b : Nat) (xs : List Int) (lost : Bool) (most : Int) (w : World) (h : Cur 66 w b xs lost) (hl : lost = true → xs = []) :
    Calls Tryd.prog 33 #[.pointer (some ⟨b, 0, none⟩), .int .i64 most] w fun e w' =>
      e = .returned (.int .i64 (M.numV most xs)) ∧ Cur 66 w' b (M.numS most xs) (M.numL most xs lost) ∧ w.grownBy w' (some b) := by
  obtain ⟨a, c, hB, hc0, hc1, hf0, hf1⟩ := h.cells
  have HC := hid h
  have HB := hid hB
  have hlen := hB.len
  unfold maxLen at hlen
  clear h hB
  cases xs with
  | nil =>
    obtain ⟨e1, e2, e3⟩ := numOk_none (most := most) (xs := []) rfl
    rw [e1, e2, e3]
    clear e1 e2 e3
    cases lost
    all_goals
      go_enter Tryd.func33, Tryd.ntmps33
      go_wp2_with fail
      refine (reflose_any b _ _ _ HC.out).mono ?_
      rintro e w1 ⟨rfl, hc, hg⟩
      go_wp2
      go_ret
      exact ⟨rfl, hc, hg⟩
  | cons x r =>
    have hlost : lost = false := by
      cases lost with
      | false => rfl
      | true => have := hl rfl; cases this
    subst hlost
    clear hl
    have hx := HB.out.range x (by simp)
    have hr : ∀ y ∈ r, 0 ≤ y ∧ y < 256 := fun y hy => HB.out.range y (by simp [hy])
    have HR := hid hr
    obtain ⟨bl, off, c', hv, hcc, _, hcell⟩ := HB.out.inv (by simp)
    simp only [Value.slice.injEq, true_and] at hv
    obtain ⟨rfl, rfl⟩ := hv
    have hx0 : w.cell? ⟨bl, off, none⟩ = some (.int .u8 x) := by simpa using hcell 0 (by simp)
    have HCELL := hid hcell
    obtain ⟨n, hn⟩ : ∃ n, r.length = n := ⟨_, rfl⟩
    simp only [List.length_cons, hn] at hc0 hlen hcc
    have HN := hid hn
    have hn0 : ((n : Int) + 1 == 0) = false := by simp; omega
    obtain ⟨hx1, hx2⟩ := hx
    clear hcell hr hn
    go_enter Tryd.func33, Tryd.ntmps33
    go_wp2
    go_loop [5, 6, 7] (fun kk f bb => ∃ k : Nat, 1 ≤ k ∧ k ≤ 8 ∧ kk = .int .i64 k ∧ f = .int .i64 (x - M.mask k) ∧ bb = .int .i64 (2 ^ (8 - k)) ∧ M.mask k ≤ x) (fun kk _ _ => 8 - (intOf kk).toNat)
    case atStart => exact ⟨1, by omega, by omega, rfl, by simp [M.mask], by simp, by simpa [M.mask] using hx1⟩
    case round =>
      obtain ⟨k, hk1, hk8, rfl, rfl, rfl, hmk⟩ := hrel
      by_cases hgo : k ≤ 7 ∧ 2 ^ (8 - k) ≤ x - M.mask k
      · obtain ⟨hk7, hge⟩ := hgo
        have hmn := mask_next hk1 hk7
        have hms := mask_small hk1 hk7
        obtain ⟨B, hB⟩ : ∃ B : Int, 2 ^ (8 - k) = B := ⟨_, rfl⟩
        obtain ⟨m, hm⟩ : ∃ m, M.mask k = m := ⟨_, rfl⟩
        rw [hB, hm] at hmn hge ⊢
        rw [hm] at hmk hms
        have HMN := hid hmn
        have hB0 := hmn.2.2.1
        have hB1 := hmn.2.2.2
        obtain ⟨hm0, hm1⟩ := hms
        clear hmn hB hm
        go_wp2
        go_round
        case rel =>
          have hh := HMN.out
          exact ⟨k + 1, by omega, by omega, by go_num, by rw [← hh.1]; go_num, by rw [hh.2.1], by rw [← hh.1]; omega⟩
        case measure => simp [intOf]; omega
      · have hst := cnt_stop (k := k) hx1 hx2 hk1 hk8 hmk (by omega)
        by_cases hk8' : k = 8
        · subst hk8'
          have hf : M.first (x :: r) = none := by
            rw [first_cons rfl, if_pos (.inl (hst.1 rfl))]
          have HE := hid (numOk_none (most := most) hf)
          clear hf hst hgo
          go_wp2_with fail
          refine (reflose_any b _ _ _ HC.out).mono ?_
          rintro e w1 ⟨rfl, hc, hg⟩
          go_wp2
          go_ret
          rw [HE.out.1, HE.out.2.1, HE.out.2.2]
          exact ⟨rfl, hc, hg⟩
        · have hk7 : k ≤ 7 := by omega
          obtain ⟨hcnt, hn0⟩ := hst.2 hk7
          have hfc := first_cons (r := r) hcnt
          rw [HN.out] at hfc
          have hlow : ¬ 2 ^ (8 - k) ≤ x - M.mask k := by omega
          have hnb := n0_bound x k hk1 hx1 hx2
          have hfr := fold_right_k (x := x) hk1 hk7 HR.out
          rw [hn0] at hlow ⊢
          obtain ⟨n0, hn0'⟩ : ∃ n0, x % 2 ^ (8 - k) = n0 := ⟨_, rfl⟩
          rw [hn0'] at hlow hnb hfc hfr ⊢
          obtain ⟨B, hB⟩ : ∃ B : Int, 2 ^ (8 - k) = B := ⟨_, rfl⟩
          rw [hB] at hlow ⊢
          have HFC := hid hfc
          have HFR := hid hfr
          obtain ⟨hb0, hb1, hb2⟩ := hnb
          have HB2 := hid hb2
          clear hst hgo hcnt hn0 hn0' hB hfc hb2 hmk hfr
          by_cases hkn : n + 1 < k
          · have hf : M.first (x :: r) = none := by rw [HFC.out, if_pos (.inr hkn)]
            have HE := hid (numOk_none (most := most) hf)
            clear hf
            go_wp2_with fail
            refine (reflose_any b _ _ _ HC.out).mono ?_
            rintro e w1 ⟨rfl, hc, hg⟩
            go_wp2
            go_ret
            rw [HE.out.1, HE.out.2.1, HE.out.2.2]
            exact ⟨rfl, hc, hg⟩
          · go_wp2
            go_loop [8, 9] (fun m i => ∃ j : Nat, j ≤ k - 1 ∧ i = .int .i64 ((j : Int) + 1) ∧ m = .int .i64 (M.fold n0 (r.take j))) (fun _ i => k - (intOf i).toNat)
            case atStart => exact ⟨0, by omega, rfl, by simp [M.fold]⟩
            case round =>
              obtain ⟨j, hj, rfl, rfl⟩ := hrel
              by_cases hlt : j < k - 1
              · have hcj := HCELL.out (j + 1) (by have := HN.out; simp; omega)
                simp only [List.getD_cons_succ] at hcj
                have hsn : M.fold n0 (r.take (j + 1)) = M.fold n0 (r.take j) * 256 + r.getD j 0 := by
                  rw [List.take_succ_eq_append_getElem (by have := HN.out; omega), M.fold_snoc]
                  simp [List.getD, show j < r.length by have := HN.out; omega]
                have hxr : 0 ≤ r.getD j 0 ∧ r.getD j 0 < 256 := HR.out _ (by simp [List.getD, show j < r.length by have := HN.out; omega])
                have hNb := (fold_small n0 r j hb0 (by have := HB2.out; omega) HR.out (by omega)).2 (by omega)
                obtain ⟨y, hy⟩ : ∃ y, r.getD j 0 = y := ⟨_, rfl⟩
                rw [hy] at hcj hsn hxr
                obtain ⟨N, hN⟩ : ∃ N, M.fold n0 (r.take j) = N := ⟨_, rfl⟩
                rw [hN] at hsn hNb ⊢
                have HSN := hid hsn
                obtain ⟨hN0, hN1⟩ := hNb
                obtain ⟨hy0, hy1⟩ := hxr
                have hjt : ((j : Int) + 1).toNat = j + 1 := by omega
                clear hy hsn hN
                go_wp2
                go_round
                case rel => exact ⟨j + 1, by omega, by go_num, by rw [HSN.out]⟩
                case measure => simp [intOf]; omega
              · obtain rfl : j = k - 1 := by omega
                have hfr := HFR.out
                have hfc := HFC.out
                obtain ⟨N, hN⟩ : ∃ N, M.fold n0 (r.take (k - 1)) = N := ⟨_, rfl⟩
                rw [hN] at hfr hfc ⊢
                obtain ⟨hN0, hN1⟩ := hfr
                have hk1' : ((k - 1 : Nat) : Int) + 1 = (k : Int) := by omega
                rw [hk1']
                have HF := hid hfc
                clear hN hfc HFC HFR hk1'
                go_wp2_with fail
                refine (refput_right N _ hN0 hN1).mono ?_
                rintro e w1 ⟨g, rfl, _, b1⟩
                have HC1 := hid (HC.out.below b1)
                have hg1 : w.grownBy w1 (some b) := World.grownBy.of_below b1
                obtain ⟨a1, c1, hB1, hc01, hc11, hf01, hf11⟩ := HC1.out.cells
                have HBB := hid hB1
                obtain ⟨bl1, off1, c1', hv1, hcc1, _, _⟩ := hB1.inv (by simp)
                simp only [Value.slice.injEq, true_and] at hv1
                obtain ⟨rfl, rfl⟩ := hv1
                clear hB1 hc0 hc1 hf0 hf1 b1
                simp only [List.length_cons, HN.out] at hc01 hcc1
                by_cases hsz : M.sz N = k
                · by_cases hmost : most < N
                  · have hf : M.first (x :: r) = some (N, k) := by rw [HF.out, if_neg (by omega), if_pos hsz]
                    have HE := hid (numOk_above hf hmost)
                    have hsz' : ((M.sz N : Int) != (k : Int)) = false := by simp; omega
                    clear hf hsz
                    go_wp2_with fail
                    refine (reflose_any b _ _ _ HC1.out).mono ?_
                    rintro e w2 ⟨rfl, hc, hg⟩
                    go_wp2
                    go_ret
                    rw [HE.out.1, HE.out.2.1, HE.out.2.2]
                    exact ⟨rfl, hc, hg1.trans hg⟩
                  · have hf : M.first (x :: r) = some (N, k) := by rw [HF.out, if_neg (by omega), if_pos hsz]
                    have HE := hid (numOk_some hf (show N ≤ most by omega))
                    have hsz' : ((M.sz N : Int) != (k : Int)) = false := by simp; omega
                    have hD := Bs.drop HBB.out k (by have := HN.out; simp; omega)
                    have hs := HC1.out.set0 hD
                    simp only [List.length_cons, HN.out] at hs
                    have HS := hid hs
                    clear hf hsz hD hs
                    by_cases hcf : c1 = k
                    · subst hcf
                      go_wp2
                      go_ret
                      rw [HE.out.1, HE.out.2.1, HE.out.2.2]
                      have hs := HS.out
                      simp only [if_pos] at hs
                      rw [show n + 1 - c1 = 0 by omega, Nat.sub_self] at hs
                      exact ⟨rfl, hs.1, hg1.trans hs.2⟩
                    · go_wp2
                      go_ret
                      rw [HE.out.1, HE.out.2.1, HE.out.2.2]
                      have hs := HS.out
                      simp only [if_neg hcf, Option.map_some, Addr.add_lit] at hs
                      exact ⟨rfl, hs.1, hg1.trans hs.2⟩
                · have hf : M.first (x :: r) = none := by rw [HF.out, if_neg (by omega), if_neg hsz]
                  have HE := hid (numOk_none (most := most) hf)
                  have hsz' : ((M.sz N : Int) != (k : Int)) = true := by simp; omega
                  clear hf hsz
                  go_wp2_with fail
                  refine (reflose_any b _ _ _ HC1.out).mono ?_
                  rintro e w2 ⟨rfl, hc, hg⟩
                  go_wp2
                  go_ret
                  rw [HE.out.1, HE.out.2.1, HE.out.2.2]
                  exact ⟨rfl, hc, hg1.trans hg⟩

end Go.Proofs.YtniecbblhphbdaaDoor

/-
  What offshootref00.CopyBytes returns is proved here, for all slices that read as bytes, of at most 2^47 of them: a row of its own.
-/
namespace Go.Proofs.YtniecbblhphbdaaDoor
open Go.RowKit
set_option linter.unusedVariables false
set_option maxRecDepth 100000

set_option maxHeartbeats 2000000 in
/-- A copy: a row of its own, not nil. -/
theorem copy_own (v : Value) (xs : List Int) (w : World) (h : Bs w v xs) (hn : xs.length ≤ 140737488355328) :
    Calls Tryd.prog 21 #[v] w fun e w' => ∃ g cap, e = .returned (.slice (some ⟨g, 0, none⟩) xs.length cap) ∧ w'.ownsRow w.heap.size 5 1 (.slice (some ⟨g, 0, none⟩) xs.length cap) xs.length (cs xs) ∧ Below w.heap.size w w' := by
  have h' := h
  obtain ⟨a, c, rfl, _⟩ := h
  obtain ⟨i0, hi, hz0, hz1, hz2⟩ := info_parts info_u8
  have hown0 : (w.alloc (.cells #[] 5)).ownsRow w.heap.size 5 1 (.slice (some ⟨w.heap.size, 0, none⟩) 0 0) 0 [] := World.ownsRow_made w #[] 0 (Nat.le_refl _) (Nat.zero_le _) rfl
  cases a with
  | none =>
    have hx : xs.length = 0 := by
      obtain ⟨a', c', h1, h2, _, h4, _⟩ := h'
      simp only [Value.slice.injEq] at h1
      have := h4 h1.1.symm
      omega
    have e1 : xs = [] := List.eq_nil_of_length_eq_zero hx
    subst e1
    go_enter Tryd.func21, Tryd.ntmps21
    go_wp2
    go_ret
    exact ⟨_, _, rfl, hown0, ba _ _⟩
  | some A =>
    have hcell := cells_at h'
    have HC := hid hcell
    clear hcell h'
    go_enter Tryd.func21, Tryd.ntmps21
    go_wp2_with (at_builtin; refine wpList_append_own _ rfl (.tmp 5) (.tmp 6) 22 rfl w.heap.size 5 i0 (.int .u8 0) 1 1 Tryd.underlying22 hi hz0 hz1 hz2 rfl (by decide) _ _ _ rfl hown0 A xs.length c (cs xs) rfl ?c0 ?c1 (ints_oneCell .u8 xs) ?c3 ?c4 ?c5 ?_)
    case c0 => simp
    case c1 =>
      intro j u hu
      have h1 := HC.out j u hu
      have hb := World.block_lt_of_cell? _ _ h1
      rw [((Below.refl w.heap.size w).alloc (Nat.le_refl _) _).cell hb]
      exact h1
    case c3 => unfold maxLen; omega
    case c4 => omega
    case c5 => simp
    intro v' w1 hown hgrow hnil
    have hb : Below w.heap.size w w1 := ((Below.refl _ w).alloc (Nat.le_refl _) (.cells #[] 5)).grown hgrow (by simp) (by intro k hk; simp [Value.ownBlock] at hk; omega)
    have hv : ∃ g cap, v' = .slice (some ⟨g, 0, none⟩) xs.length cap := by
      rcases hown.2 with ⟨e, _⟩ | ⟨g, cap, cur, e, _⟩
      · exact absurd e hnil
      · exact ⟨g, cap, by simpa using e⟩
    have hown' : w1.ownsRow w.heap.size 5 1 v' xs.length (cs xs) := by simpa using hown
    obtain ⟨g, cap, rfl⟩ := hv
    clear hown hgrow hown0 hnil
    go_wp2
    go_ret
    exact ⟨_, _, rfl, hown', hb⟩

end Go.Proofs.YtniecbblhphbdaaDoor

/-
  What the reference's cursor answers to Bytes and Text, and what CopyBytes returns, is proved here, for at most 2^47 bytes, and cursors that are over nothing when they are lost.
-/
namespace Go.Proofs.YtniecbblhphbdaaDoor
open Go.RowKit
set_option linter.unusedVariables false
set_option maxRecDepth 100000

theorem Bs.empty (w : World) (x : Addr) (c : Nat) (hc : c ≤ maxLen := by decide) : Bs w (.slice (some x) 0 c) [] :=
  ⟨some x, c, rfl, Nat.zero_le _, hc, (fun e => by cases e), fun i hi => absurd hi (Nat.not_lt_zero _), fun y hy => by cases hy⟩
theorem Bs.bound {w : World} {a : Option Addr} {n c : Nat} {xs : List Int} (h : Bs w (.slice a n c) xs) : n = xs.length ∧ xs.length ≤ c := by
  obtain ⟨a', c', h1, h2, _⟩ := h
  simp only [Value.slice.injEq] at h1
  omega

set_option maxHeartbeats 2000000 in
theorem refbytes_any (b : Nat) (xs : List Int) (lost : Bool) (n : Int) (w : World) (h : Cur 66 w b xs lost) (hl : lost = true → xs = []) (hn : xs.length ≤ 140737488355328) :
    Calls Tryd.prog 61 #[.pointer (some ⟨b, 0, none⟩), .int .i64 n] w fun e w' =>
      ∃ v, e = .returned v ∧ Bs w' v (M.takeV n xs) ∧ Cur 66 w' b (M.takeS n xs) (M.takeL n xs lost) ∧ w.grownBy w' (some b) := by
  obtain ⟨a, c, hB, hc0, hc1, hf0, hf1⟩ := h.cells
  have HB := hid hB
  have HC := hid h
  have hlen := hB.len
  have hlc := hB.bound.2
  unfold maxLen at hlen
  clear hB h
  cases lost with
  | true =>
    have := hl rfl
    subst this
    have e1 : M.takeV n [] = [] := by unfold M.takeV; split <;> simp
    have e2 : M.takeS n [] = [] := by unfold M.takeS; split <;> simp
    have e3 : M.takeL n [] true = true := by unfold M.takeL; split <;> rfl
    rw [e1, e2, e3]
    clear e1 e2 e3
    go_enter Tryd.func61, Tryd.ntmps61
    go_wp2_with fail
    refine (reflose_any b _ _ _ HC.out).mono ?_
    rintro e w1 ⟨rfl, hc, hg⟩
    go_wp2
    go_ret
    exact ⟨_, rfl, Bs.nil _, hc, hg⟩
  | false =>
    clear hl
    by_cases hok : M.takeOk n xs = true
    · have hn' : 0 ≤ n ∧ n ≤ xs.length := by unfold M.takeOk at hok; simpa using hok
      obtain ⟨h0, h1⟩ := hn'
      rw [show M.takeV n xs = xs.take n.toNat by simp [M.takeV, hok], show M.takeS n xs = xs.drop n.toNat by simp [M.takeS, hok], show M.takeL n xs false = false by simp [M.takeL, hok]]
      clear hok
      obtain ⟨k, rfl⟩ := Int.eq_ofNat_of_zero_le h0
      rw [Int.toNat_natCast]
      have hk : k ≤ xs.length := by omega
      have hT := Bs.take HB.out k hk
      have HT := hid hT
      clear h0
      obtain ⟨i0, hi, hz0, hz1, hz2⟩ := info_parts info_u8
      have hown0 : (w.alloc (.cells #[] 5)).ownsRow w.heap.size 5 1 (.slice (some ⟨w.heap.size, 0, none⟩) 0 0) 0 [] := World.ownsRow_made w #[] 0 (Nat.le_refl _) (Nat.zero_le _) rfl
      have hbl := HC.out.lt
      have hck : (k : Int) ≤ (c : Int) := by omega
      cases a with
      | none =>
        have hx : xs.length = 0 ∧ c = 0 := by
          obtain ⟨a', c', h1, h2, _, h4, _⟩ := HB.out
          simp only [Value.slice.injEq] at h1
          have := h4 h1.1.symm
          omega
        have e1 : xs = [] := List.eq_nil_of_length_eq_zero hx.1
        subst e1
        have e2 : k = 0 := by simpa using hk
        have e3 := hx.2
        subst e2 e3
        have hs := HC.out.set0 (Bs.nil w)
        have HS := hid hs
        clear hs hT HB HT hx hck hk hlen hlc hn h1
        go_enter Tryd.func61, Tryd.ntmps61
        go_wp2
        go_ret
        exact ⟨_, rfl, Bs.empty _ _ _, HS.out.1.below (ba _ _), HS.out.2.trans (World.grownBy.of_below (ba _ _))⟩
      | some A =>
        have hcell := hid (cells_at hT)
        clear hT
        go_enter Tryd.func61, Tryd.ntmps61
        go_wp2_with (at_builtin; refine wpList_append_own _ rfl (.tmp 26) (.tmp 32) 22 rfl w.heap.size 5 i0 (.int .u8 0) 1 1 Tryd.underlying22 hi hz0 hz1 hz2 rfl (by decide) _ _ _ rfl hown0 A k c (cs (xs.take k)) rfl ?c0 ?c1 (ints_oneCell .u8 _) ?c3 ?c4 ?c5 ?_)
        case c0 => simp; omega
        case c1 =>
          intro j u hu
          have h1 := hcell.out j u hu
          have hb := World.block_lt_of_cell? _ _ h1
          rw [((Below.refl w.heap.size w).alloc (Nat.le_refl _) _).cell hb]
          exact h1
        case c3 => unfold maxLen; omega
        case c4 => omega
        case c5 => simp
        intro v' w1 hown hgrow _
        have hb : Below w.heap.size w w1 := ((Below.refl _ w).alloc (Nat.le_refl _) (.cells #[] 5)).grown hgrow (by simp) (by intro k hk; simp [Value.ownBlock] at hk; omega)
        have hown' : w1.ownsRow w.heap.size 5 1 v' k (cs (xs.take k)) := by simpa using hown
        have hBv : Bs w1 v' (xs.take k) := Bs.of_own hown' (fun x hx => HB.out.range x (List.mem_of_mem_take hx))
        have hd0 : w1.cell? ⟨b, 0, none⟩ = some (.slice (some A) xs.length c) := by rw [hb.cell hbl]; exact hc0
        have hd1 : w1.frozen? ⟨b, 0, none⟩ = false := by rw [hb.frozen hbl]; exact hf0
        have HC1 := hid (HC.out.below hb)
        have hs := HC1.out.set0 (Bs.drop (HB.out.below hb) k hk)
        have HS := hid hs
        have HBV := hid hBv
        have hg1 : w.grownBy w1 (some b) := World.grownBy.of_below hb
        clear hown hown' hgrow hown0 hs hBv hc0 hc1 hf0 hf1
        by_cases hcf : c = k
        · subst hcf
          go_wp2
          go_ret
          have hs := HS.out
          simp only [if_pos] at hs
          rw [show xs.length - c = 0 by omega, Nat.sub_self] at hs
          exact ⟨_, rfl, HBV.out.keeps (HC1.out.keeps hs.2), hs.1, hg1.trans hs.2⟩
        · go_wp2
          go_ret
          have hs := HS.out
          simp only [if_neg hcf, Option.map_some] at hs
          exact ⟨_, rfl, HBV.out.keeps (HC1.out.keeps hs.2), hs.1, hg1.trans hs.2⟩
    · have hn' : ¬ (0 ≤ n ∧ n ≤ xs.length) := by unfold M.takeOk at hok; simpa using hok
      rw [show M.takeV n xs = [] by simp [M.takeV, hok], show M.takeS n xs = [] by simp [M.takeS, hok], show M.takeL n xs false = true by simp [M.takeL, hok]]
      clear hok
      by_cases h0 : n < 0
      · clear hn'
        go_enter Tryd.func61, Tryd.ntmps61
        go_wp2_with fail
        refine (reflose_any b _ _ _ HC.out).mono ?_
        rintro e w1 ⟨rfl, hc, hg⟩
        go_wp2
        go_ret
        exact ⟨_, rfl, Bs.nil _, hc, hg⟩
      · have h1 : (xs.length : Int) < n := by omega
        clear hn'
        go_enter Tryd.func61, Tryd.ntmps61
        go_wp2_with fail
        refine (reflose_any b _ _ _ HC.out).mono ?_
        rintro e w1 ⟨rfl, hc, hg⟩
        go_wp2
        go_ret
        exact ⟨_, rfl, Bs.nil _, hc, hg⟩


theorem numV_nonneg {most : Int} {xs : List Int} (hx : ∀ x ∈ xs, 0 ≤ x ∧ x < 256) : 0 ≤ M.numV most xs := by
  unfold M.numV
  split
  · unfold M.fn
    split
    · rename_i p hp
      exact (M.enc_first_eq (n := p.1) (k := p.2) hx hp).1
    · exact Int.le_refl _
  · exact Int.le_refl _

theorem numL_nil {most : Int} {xs : List Int} {l : Bool} (h : l = true → xs = []) : M.numL most xs l = true → M.numS most xs = [] := by
  unfold M.numL M.numS
  by_cases hok : M.numOk most xs = true
  · simp only [hok, if_pos]
    intro e
    have := h e
    subst this
    rfl
  · simp [hok]

set_option maxHeartbeats 2000000 in
theorem reftext_any (b : Nat) (xs : List Int) (lost : Bool) (most : Int) (w : World) (h : Cur 66 w b xs lost) (hl : lost = true → xs = []) (hn : xs.length ≤ 140737488355328) :
    Calls Tryd.prog 36 #[.pointer (some ⟨b, 0, none⟩), .int .i64 most] w fun e w' =>
      e = .returned (.string (M.str (M.textV most xs))) ∧ Cur 66 w' b (M.textS most xs) (M.textL most xs lost) ∧ w.grownBy w' (some b) := by
  unfold M.textV M.textS M.textL
  have hr : ∀ x ∈ xs, 0 ≤ x ∧ x < 256 := by
    obtain ⟨v, _, hB⟩ := h
    exact hB.range
  have h0 := numV_nonneg (most := most) hr
  have hl1 := numL_nil (most := most) hl
  have hle : (M.numS most xs).length ≤ xs.length := by unfold M.numS; split <;> simp
  have HL1 := hid hl1
  clear hr hl1
  go_enter Tryd.func36, Tryd.ntmps36
  go_wp2_with fail
  refine (refnum_any b xs lost most _ h hl).mono ?_
  rintro e w1 ⟨rfl, hc1, hg1⟩
  obtain ⟨nv, hnv⟩ : ∃ nv, M.numV most xs = nv := ⟨_, rfl⟩
  obtain ⟨ys, hys⟩ : ∃ ys, M.numS most xs = ys := ⟨_, rfl⟩
  obtain ⟨l1, hl1⟩ : ∃ l1, M.numL most xs lost = l1 := ⟨_, rfl⟩
  have hHL := HL1.out
  rw [hys, hl1] at hc1 hHL
  rw [hys] at hle
  rw [hnv] at h0 ⊢
  have HNV := hid hnv
  have HYS := hid hys
  have HLL := hid hl1
  have HHL := hid hHL
  clear hnv hys hl1 hHL HL1 h hl
  obtain ⟨a, c, hB, hc0, hc11, hf0, hf1⟩ := hc1.cells
  have hlen := hB.len
  unfold maxLen at hlen
  have HC1 := hid hc1
  clear hB hc1
  cases l1 with
  | true =>
    have e0 := HHL.out rfl
    subst e0
    have e1 : M.takeV nv [] = [] := by unfold M.takeV; split <;> simp
    have e2 : M.takeS nv [] = [] := by unfold M.takeS; split <;> simp
    have e3 : M.takeL nv [] true = true := by unfold M.takeL; split <;> rfl
    have HE := hid (And.intro e1 (And.intro e2 e3))
    clear e1 e2 e3
    go_wp2_with fail
    refine (reflose_any b _ _ _ HC1.out).mono ?_
    rintro e w2 ⟨rfl, hc, hg⟩
    go_wp2
    go_ret
    rw [HNV.out, HYS.out, HLL.out, HE.out.1, HE.out.2.1, HE.out.2.2]
    exact ⟨rfl, hc, hg1.trans hg⟩
  | false =>
    by_cases hgt : (ys.length : Int) < nv
    · have hok : M.takeOk nv ys = false := by simp [M.takeOk]; omega
      have HE := hid hok
      clear hok
      go_wp2_with fail
      refine (reflose_any b _ _ _ HC1.out).mono ?_
      rintro e w2 ⟨rfl, hc, hg⟩
      go_wp2
      go_ret
      rw [HNV.out, HYS.out, HLL.out]
      simp only [M.takeV, M.takeS, M.takeL, HE.out]
      exact ⟨rfl, hc, hg1.trans hg⟩
    · go_wp2_with fail
      refine (refbytes_any b _ _ _ _ HC1.out (fun e => by cases e) (by omega)).mono ?_
      rintro e w2 ⟨v, rfl, hB2, hc2, hg2⟩
      have hcv := conv_str hB2
      go_wp2
      go_ret
      rw [HNV.out, HYS.out, HLL.out]
      exact ⟨rfl, hc2, hg1.trans hg2⟩

end Go.Proofs.YtniecbblhphbdaaDoor

/-
  For the laws' walks: rows of ops that a law lays (one op, two ops); what is read of a right op's bytes with a byte more, or without their end.
-/
namespace Go.Proofs.YtniecbblhphbdaaDoor
open Go.RowKit
set_option linter.unusedVariables false
set_option maxRecDepth 100000

theorem run_ops1 (o : Opn) (v : Value) (w : World) : (Instr.buildSlice 33 1 #[(0, opv o v)]).run Tryd.prog w = .ok (.slice (some ⟨w.heap.size, 0, none⟩) 1 1) (w.alloc (opo o v)) := by kernel_rfl
theorem wpList_ops1 {ops : Array Oper} {rest : List Oper} {p : Oper} {a : Act} {w : World} {Q : Exit → Act → World → Prop} (hgd : p.guard = none) (x : Operand) (ho : p.op = .buildSlice 33 1 #[(0, x)]) (o : Opn) (v : Value) (hx : a.eval x = opv o v)
    (hk : wpList Tryd.prog ops Q rest (a.put p.dst (.slice (some ⟨w.heap.size, 0, none⟩) 1 1)) (w.alloc (opo o v))) : wpList Tryd.prog ops Q (p :: rest) a w := by
  refine wpList_plain hgd fun K hK => ?_
  unfold Oper.wp execOp
  have e : (Array.map (fun ((i, x) : Nat × Operand) => (i, a.eval x)) #[(0, x)]) = #[(0, opv o v)] := by simp [hx]
  simp only [ho, e, Sem.run_bind, run_ops1, Result.andThen_ok]
  exact hK _ _ hk
theorem Os.one (w : World) (o : Opn) (v : Value) (h : Cs w v o.cuts) : Os (w.alloc (opo o v)) (.slice (some ⟨w.heap.size, 0, none⟩) 1 1) [(o, v)] :=
  ⟨Sl.lit w 30 (opl o v) 1 (by decide) rfl, fun p hp => by rw [List.mem_singleton.1 hp]; exact h.below (ba w _)⟩
abbrev opl2 (o : Opn) (v : Value) (q : Opn) (u : Value) : Array Value := ((opl o v).toList ++ (opl q u).toList).toArray
theorem run_ops2 (o : Opn) (v : Value) (q : Opn) (u : Value) (w : World) : (Instr.buildSlice 33 2 #[(0, opv o v), (1, opv q u)]).run Tryd.prog w = .ok (.slice (some ⟨w.heap.size, 0, none⟩) 2 2) (w.alloc (.cells (opl2 o v q u) 30)) := by kernel_rfl
theorem wpList_ops2 {ops : Array Oper} {rest : List Oper} {p : Oper} {a : Act} {w : World} {Q : Exit → Act → World → Prop} (hgd : Region.wanted p (yielded ops a.tmps) = true) (x y : Operand) (ho : p.op = .buildSlice 33 2 #[(0, x), (1, y)]) (o : Opn) (v : Value) (q : Opn) (u : Value) (hx : a.eval x = opv o v) (hy : a.eval y = opv q u)
    (hk : wpList Tryd.prog ops Q rest (a.put p.dst (.slice (some ⟨w.heap.size, 0, none⟩) 2 2)) (w.alloc (.cells (opl2 o v q u) 30))) : wpList Tryd.prog ops Q (p :: rest) a w := by
  refine BigFrame.wpList_want hgd fun K hK => ?_
  unfold Oper.wp execOp
  have e : (Array.map (fun ((i, x) : Nat × Operand) => (i, a.eval x)) #[(0, x), (1, y)]) = #[(0, opv o v), (1, opv q u)] := by simp [hx, hy]
  simp only [ho, e, Sem.run_bind, run_ops2, Result.andThen_ok]
  exact hK _ _ hk
theorem Os.two (w : World) (o : Opn) (v : Value) (q : Opn) (u : Value) (h : Cs w v o.cuts) (k : Cs w u q.cuts) : Os (w.alloc (.cells (opl2 o v q u) 30)) (.slice (some ⟨w.heap.size, 0, none⟩) 2 2) [(o, v), (q, u)] := by
  refine ⟨Sl.lit w 30 (opl2 o v q u) 2 (by decide) rfl, fun p hp => ?_⟩
  simp only [List.mem_cons, List.not_mem_nil, or_false] at hp
  rcases hp with rfl | rfl
  · exact h.below (ba w _)
  · exact k.below (ba w _)

theorem dec_more {o : Opn} (ho : rightO o = true) {m : Int} (hb : K.Byt (encO o ++ [m])) : (decO Bnd.own (encO o ++ [m])).2 = false := by
  cases h : (decO Bnd.own (encO o ++ [m])).2 with
  | false => rfl
  | true =>
    obtain ⟨h1, h2⟩ := decO_sound Bnd.own hb h
    have := (encO_front (r := []) (s := [m]) h1 ho (by rw [List.append_nil, h2])).2
    cases this
theorem dec_less {o : Opn} (ho : rightO o = true) {j : Nat} (hj : j < (encO o).length) (hb : K.Byt ((encO o).take j)) : (decO Bnd.own ((encO o).take j)).2 = false := by
  cases h : (decO Bnd.own ((encO o).take j)).2 with
  | false => rfl
  | true =>
    obtain ⟨h1, h2⟩ := decO_sound Bnd.own hb h
    have := (encO_front (r := (encO o).drop j) (s := []) h1 ho (by rw [h2, List.take_append_drop, List.append_nil])).2
    have := congrArg List.length this
    rw [List.length_drop] at this
    simp at this
    omega
theorem encO_pos (o : Opn) : 0 < (encO o).length := by
  have := (M.sz_pos o.k).1
  unfold encO
  simp only [List.length_append, M.enc_length]
  omega
theorem small_fine {o : Opn} (h : small o = true) : o.fine ∧ o.cuts.length ≤ 40 := by
  unfold small at h
  simp at h
  exact ⟨⟨by omega, by omega⟩, h.2⟩
theorem encO_len {o : Opn} (h : rightO o = true) : (encO o).length ≤ 5000 := by
  have h1 := encFs_len o (told o.k) (told_le _) (right_told h)
  have h2 := told_len o.k
  have s1 := (M.sz_pos o.k).2
  have s2 := (M.sz_pos o.ir).2
  have s3 := (M.sz_pos o.im).2
  have s4 := (M.sz_pos o.t).2
  unfold encO
  simp only [List.length_append, M.enc_length]
  omega
theorem byt_app {a b : List Int} (ha : K.Byt a) (hb : K.Byt b) : K.Byt (a ++ b) := fun x hx => (List.mem_append.1 hx).elim (ha x) (hb x)
theorem enc_byt {x : Int} (h0 : 0 ≤ x) (h1 : x ≤ 1099511627776) : K.Byt (M.enc x) := M.enc_byte x h0 (by omega)
theorem byt_flat {α : Type} {f : α → List Int} : ∀ {l : List α}, (∀ x ∈ l, K.Byt (f x)) → K.Byt (l.flatMap f) := fun h x hx => by
  obtain ⟨y, hy, hx⟩ := List.mem_flatMap.1 hx
  exact h y hy x hx
theorem encF_byt {o : Opn} {f : Nat} (hf : f ≤ 8) (h : rightF o f = true) : K.Byt (encF o f) := by
  rcases nine hf with rfl | rfl | rfl | rfl | rfl | rfl | rfl | rfl | rfl
  · have := ro_bounds (r := o.br) (n := o.bm) h
    exact byt_app (enc_byt (by omega) (by omega)) (enc_byt (by omega) (by omega))
  · have := rb_bounds (r := o.pr) (n := o.pm) h
    exact byt_app (enc_byt (by omega) (by omega)) (enc_byt (by omega) (by omega))
  · simp [rightF, K.right, tx_length] at h
    exact encText_byte _ (by omega)
  · have := ro_bounds (r := o.sr) (n := o.sm) h
    exact byt_app (enc_byt (by omega) (by omega)) (enc_byt (by omega) (by omega))
  · have := rc_bounds (r := o.lr) (n := o.lm) (i := o.li) h
    exact byt_app (byt_app (enc_byt (by omega) (by omega)) (enc_byt (by omega) (by omega))) (enc_byt (by omega) (by omega))
  · have := rc_bounds (r := o.gr) (n := o.gm) (i := o.gi) h
    exact byt_app (byt_app (enc_byt (by omega) (by omega)) (enc_byt (by omega) (by omega))) (enc_byt (by omega) (by omega))
  · simp [rightF] at h
    exact encText_byte _ (by omega)
  · simp [rightF] at h
    refine byt_app (enc_byt (by omega) (by omega)) (byt_flat fun c hc => ?_)
    have := h.2 c hc
    simp [rct, ro] at this
    exact byt_app (byt_app (byt_app (enc_byt (by omega) (by omega)) (enc_byt (by omega) (by omega))) (enc_byt (by omega) (by omega))) (enc_byt (by omega) (by omega))
  · refine enc_byt ?_ ?_ <;> split <;> omega
theorem rs_bounds {t r : Int} (h : rs t r = true) : 0 ≤ t ∧ t ≤ 1099511627776 := by
  simp [rs] at h
  omega
theorem encO_byt {o : Opn} (h : rightO o = true) : K.Byt (encO o) := by
  have hp := (right_parts h).1
  have h1 := ro_bounds hp.1
  have h2 := rs_bounds hp.2.1
  have h3 := six hp.2.2
  refine byt_app (byt_app (byt_app (byt_app (enc_byt ?_ ?_) (enc_byt ?_ ?_)) (enc_byt ?_ ?_)) (enc_byt ?_ ?_)) (byt_flat fun f hf => encF_byt (told_le _ f hf) (right_told h f hf))
  all_goals omega

end Go.Proofs.YtniecbblhphbdaaDoor
