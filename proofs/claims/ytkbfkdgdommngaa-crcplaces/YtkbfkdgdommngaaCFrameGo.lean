/-
  What crc.Frame returns is proved here, for all slices that read as bytes: a frame of them in a row of the call's own; nothing and false for more than 65536.
-/
import Derived.Test.YtkbfkdgdommngaaCAdd
import Derived.Test.YtkbfkdgdommngaaCSum
import Derived.Laws.AppendOwnNone
namespace Go.Proofs.Ytkbfkdgdommngaa
open Go.RowKit
set_option linter.unusedVariables false

set_option maxHeartbeats 400000 in
theorem frame_wrong (v : Value) (xs : List Int) (w : World) (h : Bs w v xs) (hl : 65536 < xs.length) :
    Calls Try.prog 9 #[v] w fun e w' => e = .returned (.tuple #[.slice none 0 0, .bool false]) ∧ w = w' := by
  have hm := h.len
  unfold maxLen at hm
  obtain ⟨a, c, rfl, _⟩ := h
  go_enter Try.func9, Try.ntmps9
  go_wp2
  go_ret2
  exact ⟨rfl, rfl⟩

set_option maxHeartbeats 1000000 in
theorem frame_right (v : Value) (xs : List Int) (w : World) (h : Bs w v xs) (hl : xs.length ≤ 65536) :
    Calls Try.prog 9 #[v] w fun e w' => ∃ v', e = .returned (.tuple #[v', .bool true]) ∧
      w'.ownsRow w.heap.size 5 1 v' (8 + xs.length) (cs (C.frame xs)) ∧ Below w.heap.size w w' := by
  have hB := hid h
  have hr := hid h.range
  have hv : ∃ a c, v = .slice a xs.length c := by
    obtain ⟨a, c, e, _⟩ := h
    exact ⟨a, c, e⟩
  obtain ⟨a, c, rfl⟩ := hv
  clear h
  have hfr : C.frame xs = C.le xs.length ++ C.le (C.sum xs) ++ xs := by rw [C.frame, List.append_assoc]
  have HF := hid hfr
  clear hfr
  have hs := C.sum_lt hr.out
  obtain ⟨n, hn⟩ : ∃ n, xs.length = n := ⟨_, rfl⟩
  rw [hn] at hl hB HF ⊢
  have HN := hid hn
  clear hn
  obtain ⟨i0, hi, hz0, hz1, hz2⟩ := info_parts info_u8
  have hnb : i0.bytes * (8 + n) ≤ 281474976710656 := by rw [hz2]; omega
  have hnm : 8 + n ≤ maxLen := by unfold maxLen; omega
  have hl' : ¬ (65536 : Int) < (n : Int) := by omega
  go_enter Try.func9, Try.ntmps9
  go_wp2_with (at_make; refine wpList_make_own _ rfl (.const (.int .i64 0)) (.tmp 10) 22 rfl w.heap.size 5 i0 (.int .u8 0) 1 Try.underlying22 hi hz0 hz1 .i64 .i64 _ (8 + n) rfl rfl (by simp) hnb hnm (Nat.le_refl _) ?_; intro w1 hown hgrow)
  have b1 : Below w.heap.size w w1 := (Below.refl _ w).grown hgrow (Nat.le_refl _) (by intro k hk; cases hk)
  have hown' : w1.ownsRow w.heap.size 5 1 (.slice (some ⟨w.heap.size, 0, none⟩) 0 (8 + n)) 0 (cs []) := hown
  clear hown hgrow hnb hnm
  refine (addWord_any _ [] 0 n w.heap.size _ hown' b1.size (by omega) (by omega) (by omega)).mono ?_
  rintro e w2 ⟨v2, rfl, hown2, b2⟩
  have b12 := b1.trans b2
  clear b1 b2 hown'
  go_wp2_with fail
  refine (sum_any _ xs _ (hB.out.below b12)).mono ?_
  rintro e w3 ⟨rfl, b3⟩
  have hown3 := own_below hown2 b3
  have b13 : Below w.heap.size w w3 := bt b12 b3
  clear hown2 b12 b3
  go_wp2_with fail
  refine (addWord_any _ _ _ (C.sum xs) w.heap.size _ hown3 b13.size (by omega) hs (by omega)).mono ?_
  rintro e w4 ⟨v4, rfl, hown4, b4⟩
  have b14 := b13.trans b4
  clear b13 b4 hown3
  have hB4 := hB.out.below b14
  cases a with
  | none =>
    obtain ⟨rfl, rfl, rfl⟩ := hB4.none_nil
    have H4 := hid hown4
    clear hown4
    go_wp2_with (at_builtin; refine wpList_append_own_none rfl (.tmp 20) (.tmp 21) 22 rfl w.heap.size 5 i0 1 Try.underlying22 hi _ _ _ rfl H4.out rfl ?_)
    go_ret2
    refine ⟨_, rfl, ?_, b14⟩
    have := H4.out
    rw [HF.out]
    simpa using this
  | some A =>
    have hcell := hid (cells_at hB4)
    clear hB4
    go_wp2_with (at_builtin; refine wpList_append_own _ rfl (.tmp 20) (.tmp 21) 22 rfl w.heap.size 5 i0 (.int .u8 0) 1 1 Try.underlying22 hi hz0 hz1 hz2 rfl (by decide) _ _ _ rfl hown4 A n c (cs xs) rfl ?c0 hcell.out (ints_oneCell .u8 xs) ?c3 ?c4 b14.size ?_)
    case c0 => simp [HN.out]
    case c3 => unfold maxLen; omega
    case c4 => omega
    intro v' w5 hown5 hgrow _
    have b5 : Below w.heap.size w w5 := b14.grown hgrow b14.size (fun k hk => (hown4.lt k hk).1)
    have H5 : Hid (w5.ownsRow w.heap.size 5 1 v' (8 + n) (cs (C.frame xs))) := by
      rw [HF.out]
      show w5.ownsRow w.heap.size 5 1 v' (8 + n) _
      have := hown5
      rw [show 0 + 4 + 4 + n = 8 + n by omega] at this
      simpa [cs] using this
    clear hown5 hgrow hown4 b14
    go_wp2
    go_ret2
    exact ⟨_, rfl, H5.out, b5⟩

theorem frame_bs (v : Value) (xs : List Int) (w : World) (h : Bs w v xs) (hl : xs.length ≤ 65536) :
    Calls Try.prog 9 #[v] w fun e w' => ∃ v', e = .returned (.tuple #[v', .bool true]) ∧ Bs w' v' (C.frame xs) ∧ Below w.heap.size w w' :=
  (frame_right v xs w h hl).mono fun _ _ ⟨v', he, ho, hb⟩ => ⟨v', he, Bs.of_own ho (C.frame_bytes h.range), hb⟩

end Go.Proofs.Ytkbfkdgdommngaa
