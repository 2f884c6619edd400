/-
  What num.PutText returns is proved here, for texts of at most 2^46 bytes.
-/
import Derived.Test.YtmgemgkanlpnnaaDoorPut
import Derived.Test.YtmgemgkanlpnnaaDoorCells
import Derived.Test.YtmgemgkanlpnnaaDoorCode
import Derived.Lib.AppendStr
namespace Go.Proofs.YtmgemgkanlpnnaaDoor
open Go.RowKit
set_option linter.unusedVariables false
set_option maxRecDepth 100000

theorem cs_ofStr (s : ByteArray) : cs (M.ofStr s) = Lib.strCells s := by
  simp [cs, M.ofStr, Lib.strCells]
theorem encText_byte (s : ByteArray) (hs : s.size ≤ 70368744177664) : ∀ x ∈ M.encText s, 0 ≤ x ∧ x < 256 := by
  intro x hx
  unfold M.encText at hx
  rcases List.mem_append.1 hx with h | h
  · exact M.enc_byte _ (by omega) (by omega) x h
  · exact M.ofStr_byte s x h
theorem encText_length (s : ByteArray) : (M.encText s).length = M.sz s.size + s.size := by
  unfold M.encText; rw [List.length_append, M.enc_length, M.ofStr_length]

set_option maxHeartbeats 1000000 in
theorem puttext_own (s : ByteArray) (w : World) (hs : s.size ≤ 70368744177664) :
    Calls Tryd.prog 69 #[.string s] w fun e w' => ∃ v, e = .returned v ∧ w'.ownsRow w.heap.size 5 1 v (M.sz s.size + s.size) (cs (M.encText s)) ∧ Below w.heap.size w w' := by
  obtain ⟨i0, hi, hz0, hz1, hz2⟩ := info_parts info_u8
  have hsz := M.sz_pos s.size
  go_enter Tryd.func69, Tryd.ntmps69
  go_wp2_with fail
  refine (put_right s.size _ (by omega) (by omega)).mono ?_
  rintro e w1 ⟨g, rfl, hown, b1⟩
  go_wp2_with (at_builtin; refine Lib.wpList_append_own_string _ rfl (.tmp 11) (.tmp 12) 22 9 rfl w.heap.size 5 i0 Tryd.underlying22 Tryd.underlying9 hi hz0 hz1 hz2 _ _ _ rfl hown s rfl ?c1 ?c2 ?c3 ?_)
  case c1 => unfold maxLen; omega
  case c2 => omega
  case c3 => exact b1.size
  intro v' w2 hown2 hgrow _
  have b2 : Below w.heap.size w w2 := b1.grown hgrow b1.size (fun k hk => (hown.lt k hk).1)
  have H2 := hid hown2
  clear hown2 hown hgrow b1
  go_wp2
  go_ret
  refine ⟨_, rfl, ?_, b2⟩
  have := H2.out
  rw [← cs_ofStr, ← List.map_append] at this
  exact this

theorem puttext_bs (s : ByteArray) (w : World) (hs : s.size ≤ 70368744177664) :
    Calls Tryd.prog 69 #[.string s] w fun e w' => ∃ v, e = .returned v ∧ Bs w' v (M.encText s) ∧ Below w.heap.size w w' :=
  (puttext_own s w hs).mono fun _ _ ⟨_, he, ho, hb⟩ => ⟨_, he, Bs.of_own ho (encText_byte s hs), hb⟩

end Go.Proofs.YtmgemgkanlpnnaaDoor
