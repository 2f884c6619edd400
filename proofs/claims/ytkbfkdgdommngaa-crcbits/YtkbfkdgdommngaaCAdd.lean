/-
  What crc.addWord returns is proved here: a number's four bytes behind what was there, in a row of the caller's own.
-/
import Derived.Test.YtkbfkdgdommngaaClone
import Derived.Test.YtkbfkdgdommngaaCFrame
namespace Go.Proofs.Ytkbfkdgdommngaa
open Go.RowKit
set_option linter.unusedVariables false

theorem le_take (n : Nat) (k : Nat) (h : k < 4) : (C.le n).take (k + 1) = (C.le n).take k ++ [(n : Int) / 2 ^ (8 * k) % 256] := by
  have : k = 0 ∨ k = 1 ∨ k = 2 ∨ k = 3 := by omega
  rcases this with rfl | rfl | rfl | rfl <;> simp [C.le]

set_option maxHeartbeats 1000000 in
theorem addWord_any (v : Value) (xs : List Int) (m n base : Nat) (w : World) (h : w.ownsRow base 5 1 v m (cs xs)) (hb : base ≤ w.heap.size) (hm : m ≤ 281474976710656) (hn : n < 4294967296) (hm2 : m + 4 ≤ 140737488355328) :
    Calls Try.prog 21 #[v, .int .i64 n] w fun e w' => ∃ v', e = .returned v' ∧ w'.ownsRow base 5 1 v' (m + 4) (cs (xs ++ C.le n)) ∧ Below base w w' := by
  obtain ⟨i0, hi, hz0, hz1, hz2⟩ := info_parts info_u8
  go_enter Try.func21, Try.ntmps21
  go_wp2
  go_loopw [0, 6] (fun u i wr => ∃ k : Nat, k ≤ 4 ∧ i = .int .i64 k ∧ wr.ownsRow base 5 1 u (m + k) (cs (xs ++ (C.le n).take k)) ∧ Below base w wr) (fun _ i _ => 4 - (intOf i).toNat)
  case atStart => exact ⟨0, Nat.zero_le _, rfl, by simpa using h, Below.refl _ _⟩
  case round =>
    clear h
    obtain ⟨k, hk, rfl, hown, bel⟩ := hrel
    by_cases hlt : k < 4
    · have hst := hid (le_take n k hlt)
      have hlt' : (k : Int) < 4 := by omega
      have hbw : base ≤ wr.heap.size := Nat.le_trans hb bel.size
      have hown1 := hown.alloc (.cells #[.int .u8 ((n : Int) / 2 ^ (8 * k) % 256)] 5)
      go_wp2_with (at_builtin; refine wpList_append_own _ rfl (.tmp 9) (.tmp 15) 22 rfl base 5 i0 (.int .u8 0) 1 1 Try.underlying22 hi hz0 hz1 hz2 rfl (by decide) _ _ _ rfl hown1 ⟨wr.heap.size, 0, none⟩ 1 1 (cs [(n : Int) / 2 ^ (8 * k) % 256]) rfl rfl ?c1 ?c2 ?c3 ?c4 ?c5 ?_)
      case c1 =>
        intro j u hj
        match j, hj with
        | 0, hj => simp at hj; subst hj; simp [Addr.add]
      case c2 => intro u hu; simp at hu; subst hu; rfl
      case c3 => unfold maxLen; omega
      case c4 => omega
      case c5 => simp; omega
      intro v' w2 hown2 hgrow _
      have b2 : Below base w w2 := (bel.alloc hbw _).grown hgrow (by simp; omega) (fun k hk => (hown.lt k hk).1)
      have H2 := hid hown2
      clear hown2 hown hown1 hgrow bel
      go_wp2
      go_roundw
      case rel =>
        have e2 : w2.ownsRow base 5 1 v' (m + (k + 1)) (cs (xs ++ (C.le n).take (k + 1))) := by
          have e : cs (xs ++ (C.le n).take (k + 1)) = cs (xs ++ (C.le n).take k) ++ cs [(n : Int) / 2 ^ (8 * k) % 256] := by
            rw [hst.out]; simp [cs]
          rw [e, ← Nat.add_assoc]
          have := H2.out
          simp only [cs, List.map_append, List.map_take, List.map_cons, List.map_nil, List.append_assoc] at this ⊢
          exact this
        have R : ∃ k' : Nat, k' ≤ 4 ∧ Value.int .i64 ((k : Int) + 1) = .int .i64 k' ∧ w2.ownsRow base 5 1 v' (m + k') (cs (xs ++ (C.le n).take k')) ∧ Below base w w2 :=
          ⟨k + 1, by omega, by go_num, e2, b2⟩
        first | exact R | ((repeat apply Exists.intro); exact ⟨R, rfl⟩)
      case measure => simp [intOf]; omega
    · obtain rfl : k = 4 := by omega
      go_wp2
      go_ret
      exact ⟨_, rfl, hown, bel⟩

end Go.Proofs.Ytkbfkdgdommngaa
