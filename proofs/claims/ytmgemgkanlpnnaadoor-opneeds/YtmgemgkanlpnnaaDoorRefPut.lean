/-
  What the reference's Put and PutText return is proved here: Put for every number, PutText for texts of at most 2^46 bytes.
-/
import Derived.Test.YtmgemgkanlpnnaaDoorPut
import Derived.Test.YtmgemgkanlpnnaaDoorText
namespace Go.Proofs.YtmgemgkanlpnnaaDoor
open Go.RowKit
set_option linter.unusedVariables false
set_option maxRecDepth 100000

theorem cs_append (a b : List Int) : cs (a ++ b) = cs a ++ cs b := by simp [cs]
theorem bd_succ (k : Nat) : M.bd k * 128 = M.bd (k + 1) := by unfold M.bd; rw [Int.pow_succ]
theorem bd_small {k : Nat} (h : k ≤ 6) : 0 ≤ M.bd k ∧ M.bd k ≤ 4398046511104 := by
  have := M.ipow_le 128 (b := k) (c := 6) (by decide) h
  have h0 : (0 : Int) ≤ 128 ^ k := Int.le_of_lt (Int.pow_pos (by decide))
  unfold M.bd
  exact ⟨h0, this⟩
theorem mask_step {j : Nat} (h : j ≤ 5) : M.mask (j + 1) + 128 / 2 ^ j = M.mask (j + 2) := by
  have : j = 0 ∨ j = 1 ∨ j = 2 ∨ j = 3 ∨ j = 4 ∨ j = 5 := by omega
  rcases this with rfl | rfl | rfl | rfl | rfl | rfl <;> decide
theorem mask_small {k : Nat} (h1 : 1 ≤ k) (h7 : k ≤ 7) : 0 ≤ M.mask k ∧ M.mask k ≤ 252 := by
  rcases M.seven ⟨h1, h7⟩ with rfl | rfl | rfl | rfl | rfl | rfl | rfl <;> decide
theorem mask_room {k : Nat} {x : Int} (h1 : 1 ≤ k) (h7 : k ≤ 7) (hx : x < 2 ^ (8 - k)) : x + M.mask k < 256 := by
  rcases M.seven ⟨h1, h7⟩ with rfl | rfl | rfl | rfl | rfl | rfl | rfl <;> simp [M.mask] at hx ⊢ <;> omega

set_option maxHeartbeats 400000 in
theorem refput_wrong (n : Int) (w : World) (h : n < 0 ∨ 562949953421312 ≤ n) :
    Calls Tryd.prog 60 #[.int .i64 n] w fun e w' => e = .returned (.tuple #[.slice none 0 0, .bool false]) ∧ w = w' := by
  by_cases h0 : n < 0
  · clear h
    go_enter Tryd.func60, Tryd.ntmps60
    go_wp2
    go_ret2
    exact ⟨rfl, rfl⟩
  · have h1 : 562949953421311 < n := by omega
    clear h
    go_enter Tryd.func60, Tryd.ntmps60
    go_wp2
    go_ret2
    exact ⟨rfl, rfl⟩

set_option maxHeartbeats 2000000 in
theorem refput_right (n : Int) (w : World) (h0 : 0 ≤ n) (h1 : n < 562949953421312) :
    Calls Tryd.prog 60 #[.int .i64 n] w fun e w' => ∃ g, e = .returned (.tuple #[.slice (some ⟨g, 0, none⟩) (M.sz n) (M.sz n), .bool true]) ∧
      w'.ownsRow w.heap.size 5 1 (.slice (some ⟨g, 0, none⟩) (M.sz n) (M.sz n)) (M.sz n) (cs (M.enc n)) ∧ Below w.heap.size w w' := by
  have hk1 := M.sz_pos n
  have hsz := fun (k : Nat) (h1 : 1 ≤ k) (h7 : k ≤ 7) hl hu => M.sz_of (n := n) (k := k) h1 h7 hl hu
  obtain ⟨i0, hi, hz0, hz1, hz2⟩ := info_parts info_u8
  have h2 : ¬ 562949953421311 < n := by omega
  have HSZ := hid hsz
  clear hsz
  go_enter Tryd.func60, Tryd.ntmps60
  go_wp2
  go_loop [4, 5] (fun c l => ∃ k : Nat, 1 ≤ k ∧ k ≤ 7 ∧ c = .int .i64 k ∧ l = .int .i64 (M.bd k) ∧ (k = 1 ∨ M.bd (k - 1) ≤ n)) (fun c _ => 7 - (intOf c).toNat)
  case atStart => exact ⟨1, by omega, by omega, rfl, rfl, .inl rfl⟩
  case round =>
    obtain ⟨k, hk, hk7, rfl, rfl, hb⟩ := hrel
    have HB := hid hb
    clear hb
    by_cases hn : M.bd k ≤ n
    · have hk6 : k ≤ 6 := by
        by_cases e : k = 7
        · subst e; have : M.bd 7 = 562949953421312 := rfl; omega
        · omega
      have hbs := bd_small hk6
      have hs := hid (bd_succ k)
      go_wp2
      go_round
      case rel => exact ⟨k + 1, by omega, by omega, by go_num, by rw [← hs.out], .inr (by simpa using hn)⟩
      case measure => simp [intOf]; omega
    · have hk' : M.sz n = k := HSZ.out k hk hk7 HB.out (by
        by_cases e : k = 7
        · exact .inl e
        · exact .inr (by omega))
      have HK := hid hk'
      clear hk' HSZ HB
      have hkb : i0.bytes * k ≤ 281474976710656 := by rw [hz2]; omega
      have hkm : k ≤ maxLen := by unfold maxLen; omega
      go_wp2_with (at_make; refine wpList_make_full _ rfl (.tmp 23) (.tmp 23) 22 rfl _ 5 i0 (.int .u8 0) 1 Tryd.underlying22 hi hz0 hz1 .i64 .i64 _ _ k rfl rfl (by simp) (by simp) hkb hkm (Nat.le_refl _) ?_; intro w1 hown hgrow)
      have hrow : w1.ownsRow w.heap.size 5 1 (.slice (some ⟨w.heap.size, 0, none⟩) k k) k (cs (List.replicate (k - 0) 0 ++ M.be 0 n)) := by
        have e : (madeCells #[Value.int .u8 0] (k * 1)).toList = cs (List.replicate (k - 0) 0 ++ M.be 0 n) := by simp [toList_madeCells_one, M.be]
        rw [← e]; exact hown
      have hbel : Below w.heap.size w w1 := (Below.refl _ w).grown hgrow (Nat.le_refl _) (by intro k hk; cases hk)
      clear hown hgrow
      go_loopw [0, 7] (fun nn i wr => ∃ m j : Nat, m + j = k ∧ i = .int .i64 ((m : Int) - 1) ∧ nn = .int .i64 (n / 256 ^ j) ∧
          wr.ownsRow w.heap.size 5 1 (.slice (some ⟨w.heap.size, 0, none⟩) k k) k (cs (List.replicate m 0 ++ M.be j n)) ∧ Below w.heap.size w wr) (fun _ i _ => (intOf i + 1).toNat)
      case atStart => exact ⟨k, 0, by omega, rfl, by simp, by simpa using hrow, hbel⟩
      case round =>
        clear hrow hbel
        obtain ⟨m, j, hmj, rfl, rfl, hrow, hbel⟩ := hrel
        by_cases hm : m = 0
        · subst hm
          go_wp2
          go_loop [8, 9] (fun o i => ∃ j : Nat, j ≤ k - 1 ∧ i = .int .i64 j ∧ o = .int .i64 (M.mask (j + 1))) (fun _ i => k - (intOf i).toNat)
          case atStart => exact ⟨0, by omega, rfl, rfl⟩
          case round =>
            obtain ⟨t, ht, rfl, rfl⟩ := hrel
            have hms := mask_small (k := t + 1) (by omega) (by omega)
            by_cases htk : t < k - 1
            · have hst := hid (mask_step (j := t) (by omega))
              go_wp2
              go_round
              case rel =>
                refine ⟨t + 1, by omega, by go_num, ?_⟩
                have hm2 := mask_small (k := t + 2) (by omega) (by omega)
                rw [hst.out, show wrap64 (M.mask (t + 2)) = M.mask (t + 2) by unfold wrap64; omega]
              case measure => simp [intOf]; omega
            · obtain rfl : t = k - 1 := by omega
              obtain rfl : j = k := by omega
              have ek : j - 1 + 1 = j := by omega
              rw [ek] at hms ⊢
              obtain ⟨x, r, hx⟩ : ∃ x r, M.be j n = x :: r := by
                cases j with
                | zero => omega
                | succ j => exact ⟨_, _, rfl⟩
              have hrow2 := hrow
              rw [List.replicate_zero, List.nil_append, hx] at hrow2
              have hcell : wr.cell? ⟨w.heap.size, 0, none⟩ = some (.int .u8 x) := by rw [hrow2.cellAt 0 (by omega)]; rfl
              have hfz := hrow2.frozenAt 0
              have hxr := M.be_head h0 h1 HK.out hx
              have hx0 := hxr.1
              have hx1 := mask_room hk hk7 hxr.2
              have HX := hid hx
              have HR := hid hrow2
              clear hx hrow hrow2 hxr hkb hkm ek
              have hp : (0 : Int) < (j : Int) := by omega
              go_wp2
              go_ret2
              have hs := (World.ownsRow.stored HR.out 0 (.int .u8 (x + M.mask (M.sz n)))).1
              refine ⟨w.heap.size, by rw [HK.out]; rfl, ?_, hbel.setCell (Nat.le_refl _) _⟩
              rw [M.enc, M.encK, HK.out, HX.out]
              rw [HK.out] at hs
              exact hs
        · obtain ⟨m', rfl⟩ : ∃ m', m = m' + 1 := ⟨m - 1, by omega⟩
          rw [show (((m' + 1 : Nat) : Int) - 1) = (m' : Int) from by omega]
          have hcell := hrow.cellAt m' (by omega)
          have hfz := hrow.frozenAt m'
          have hst := hrow.stored m'
          have HS := hid hst
          clear hst
          have hc2 : wr.cell? ⟨w.heap.size, m', none⟩ = some (.int .u8 0) := by rw [hcell]; exact row_at _ _ _
          have hq0 : 0 ≤ n / 256 ^ j := Int.ediv_nonneg h0 (Int.le_of_lt (Int.pow_pos (by decide)))
          have hq1 : n / 256 ^ j ≤ n := Int.ediv_le_self _ h0
          clear hcell
          go_wp2
          go_roundw
          case rel =>
            have hs := HS.out (.int .u8 (n / 256 ^ j % 256))
            refine ⟨m', j + 1, by omega, rfl, ?_, ?_, hbel.setCell (Nat.le_refl _) _⟩
            · rw [Int.pow_succ, Int.ediv_ediv_of_nonneg (by exact Int.le_of_lt (Int.pow_pos (by decide)))]
            · have e := hs.1
              rw [row_set] at e
              exact e
          case measure => simp [intOf]


theorem refput_bs (n : Int) (w : World) (h0 : 0 ≤ n) (h1 : n < 562949953421312) :
    Calls Tryd.prog 60 #[.int .i64 n] w fun e w' => ∃ v, e = .returned (.tuple #[v, .bool true]) ∧ Bs w' v (M.enc n) ∧ Below w.heap.size w w' :=
  (refput_right n w h0 h1).mono fun _ _ ⟨_, he, ho, hb⟩ => ⟨_, he, Bs.of_own ho (M.enc_byte n h0 h1), hb⟩

theorem ofStr_step (s : ByteArray) (k : Nat) (h : k < s.size) : (M.ofStr s).take (k + 1) = (M.ofStr s).take k ++ [((s[k]).toNat : Int)] := by
  rw [List.take_succ_eq_append_getElem (by rw [M.ofStr_length]; exact h)]
  congr 1
  simp [M.ofStr]
  rfl

set_option maxHeartbeats 1000000 in
theorem refputtext_bs (s : ByteArray) (w : World) (hs : s.size ≤ 70368744177664) :
    Calls Tryd.prog 44 #[.string s] w fun e w' => ∃ v, e = .returned v ∧ Bs w' v (M.encText s) ∧ Below w.heap.size w w' := by
  obtain ⟨i0, hi, hz0, hz1, hz2⟩ := info_parts info_u8
  have hsz := M.sz_pos s.size
  go_enter Tryd.func44, Tryd.ntmps44
  go_wp2_with fail
  refine (refput_right s.size _ (by omega) (by omega)).mono ?_
  rintro e w1 ⟨g, rfl, hown, b1⟩
  obtain ⟨m, hm⟩ : ∃ m, M.sz s.size = m := ⟨_, rfl⟩
  rw [hm] at hsz hown ⊢
  clear hm
  go_wp2
  go_loopw [3, 5] (fun v i wr => ∃ k : Nat, k ≤ s.size ∧ i = .int .i64 k ∧ wr.ownsRow w.heap.size 5 1 v (m + k) (cs (M.enc s.size ++ (M.ofStr s).take k)) ∧ Below w.heap.size w wr) (fun _ i _ => s.size - (intOf i).toNat)
  case atStart => exact ⟨0, Nat.zero_le _, rfl, by simpa using hown, b1⟩
  case round =>
    clear hown b1
    obtain ⟨k, hk, rfl, hown, bel⟩ := hrel
    by_cases hlt : k < s.size
    · have hst := hid (ofStr_step s k hlt)
      have hown1 := hown.alloc (.cells #[.int .u8 ((s[k]).toNat : Int)] 5)
      go_wp2_with (at_builtin; refine wpList_append_own _ rfl (.tmp 18) (.tmp 22) 22 rfl w.heap.size 5 i0 (.int .u8 0) 1 1 Tryd.underlying22 hi hz0 hz1 hz2 rfl (by decide) _ _ _ rfl hown1 ⟨wr.heap.size, 0, none⟩ 1 1 (cs [((s[k]).toNat : Int)]) rfl rfl ?c1 ?c2 ?c3 ?c4 ?c5 ?_)
      case c1 =>
        intro j u hj
        match j, hj with
        | 0, hj => simp at hj; subst hj; simp [Addr.add]
      case c2 => intro u hu; simp at hu; subst hu; rfl
      case c3 => unfold maxLen; omega
      case c4 => omega
      case c5 => have := bel.size; simp; omega
      intro v' w2 hown2 hgrow _
      have b2 : Below w.heap.size w w2 := (bel.alloc bel.size _).grown hgrow (by have := bel.size; simp; omega) (fun k hk => (hown.lt k hk).1)
      have H2 := hid hown2
      clear hown2 hown hown1 hgrow bel
      go_wp2
      go_roundw
      case rel =>
        have e2 : w2.ownsRow w.heap.size 5 1 v' (m + (k + 1)) (cs (M.enc s.size ++ (M.ofStr s).take (k + 1))) := by
          have e : cs (M.enc s.size ++ (M.ofStr s).take (k + 1)) = (M.enc s.size).map (Value.int .u8) ++ (((M.ofStr s).map (Value.int .u8)).take k ++ [Value.int .u8 ((s[k]).toNat : Int)]) := by
            rw [hst.out]; simp [cs]
          rw [e, ← Nat.add_assoc]
          exact H2.out
        have R : ∃ k' : Nat, k' ≤ s.size ∧ Value.int .i64 ((k : Int) + 1) = .int .i64 k' ∧ w2.ownsRow w.heap.size 5 1 v' (m + k') (cs (M.enc s.size ++ (M.ofStr s).take k')) ∧ Below w.heap.size w w2 :=
          ⟨k + 1, by omega, by go_num, e2, b2⟩
        first | exact R | ((repeat apply Exists.intro); exact ⟨R, rfl⟩)
      case measure => simp [intOf]; omega
    · have e : k = s.size := by omega
      go_wp2
      go_ret
      refine ⟨_, rfl, ?_, bel⟩
      refine Bs.of_own (n := m + k) (base := w.heap.size) (e := 5) ?_ (encText_byte s hs)
      rw [List.take_of_length_le (by rw [M.ofStr_length]; omega)] at hown
      exact hown

end Go.Proofs.YtmgemgkanlpnnaaDoor
