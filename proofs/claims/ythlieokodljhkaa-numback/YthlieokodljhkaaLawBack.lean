/-
  For every number n and every text s the law NumBack returns true: what was put is taken again, and nothing is left; without its last byte it isn't. No condition.
-/
import Derived.Test.YthlieokodljhkaaText
import Derived.ProofKit
import Derived.OpenShut
import Derived.ShutString
import Derived.ChangeOld
import Derived.Below
namespace Go.Proofs.Ythlieokodljhkaa
open Go.RowKit
set_option linter.unusedVariables false

theorem num_enc {n most : Int} (h0 : 0 ≤ n) (h1 : n < 562949953421312) (hm : n ≤ most) (r : List Int) (l : Bool) :
    M.numV most (M.enc n ++ r) = n ∧ M.numS most (M.enc n ++ r) = r ∧ M.numL most (M.enc n ++ r) l = l := by
  have hf := M.first_enc h0 h1 r
  have hok : M.numOk most (M.enc n ++ r) = true := by simp [M.numOk, M.fo, M.fn, hf, hm]
  refine ⟨by simp [M.numV, hok, M.fn, hf], ?_, by simp [M.numL, hok]⟩
  have hl := M.enc_length n
  simp only [M.numS, hok, if_pos, M.fc, hf]
  rw [← hl, List.drop_left]

theorem text_enc {s : ByteArray} {most : Int} (hs : s.size ≤ 70368744177664) (hm : (s.size : Int) ≤ most) (r : List Int) (l : Bool) :
    M.textV most (M.encText s ++ r) = M.ofStr s ∧ M.textS most (M.encText s ++ r) = r ∧ M.textL most (M.encText s ++ r) l = l := by
  have h := num_enc (n := s.size) (most := most) (by omega) (by omega) hm (M.ofStr s ++ r) l
  have hl := M.ofStr_length s
  have ha : M.encText s ++ r = M.enc s.size ++ (M.ofStr s ++ r) := by unfold M.encText; rw [List.append_assoc]
  have hok : M.takeOk s.size (M.ofStr s ++ r) = true := by simp [M.takeOk, hl]; omega
  unfold M.textV M.textS M.textL
  rw [ha, h.1, h.2.1, h.2.2]
  simp only [M.takeV, M.takeS, M.takeL, hok, if_pos, Int.toNat_natCast]
  rw [← hl]
  exact ⟨List.take_left, List.drop_left, trivial⟩

/-- Without its last byte a text is none. -/
theorem text_cut {s : ByteArray} (hs : s.size ≤ 70368744177664) (l : Bool) :
    M.textV s.size ((M.encText s).take (M.sz s.size + s.size - 1)) = [] ∧ M.textL s.size ((M.encText s).take (M.sz s.size + s.size - 1)) l = true := by
  have hl := M.ofStr_length s
  have he := M.enc_length s.size
  by_cases h0 : s.size = 0
  · have e1 : M.sz (s.size : Int) = 1 := by rw [h0]; rfl
    rw [e1, h0]
    have e2 : M.textV ((0 : Nat) : Int) [] = [] := by decide
    have e3 : M.textL ((0 : Nat) : Int) [] l = true := by cases l <;> decide
    simpa using ⟨e2, e3⟩
  · have e1 : (M.encText s).take (M.sz s.size + s.size - 1) = M.enc s.size ++ (M.ofStr s).take (s.size - 1) := by
      unfold M.encText
      rw [List.take_append, List.take_of_length_le (by omega), he, show M.sz s.size + s.size - 1 - M.sz s.size = s.size - 1 by omega]
    have h := num_enc (n := s.size) (most := s.size) (by omega) (by omega) (Int.le_refl _) ((M.ofStr s).take (s.size - 1)) l
    have hok : M.takeOk s.size ((M.ofStr s).take (s.size - 1)) = false := by simp [M.takeOk, hl]; omega
    unfold M.textV M.textL
    rw [e1, h.1, h.2.1, h.2.2]
    simp [M.takeV, M.takeL, hok]

theorem sz_text (s : ByteArray) : 1 ≤ M.sz s.size := (M.sz_pos _).1

set_option maxHeartbeats 2000000 in
theorem back_any (n : Int) (s : ByteArray) (w : World) (wn : (Lit.int .i64 n).wf = true) (ws : s.size ≤ maxLen) :
    Calls Try.prog 5 #[.int .i64 n, .string s] w fun e w' => e = .returned (.bool true) ∧ Below w.heap.size w w' := by
  clear wn
  unfold maxLen at ws
  by_cases hs : 20000 < s.size
  · go_enter Try.func5, Try.ntmps5
    go_wp2_with fail
    refine (alive_any _).mono ?_
    rintro e w1 ⟨rfl, b1⟩
    go_wp2
    go_ret
    exact ⟨rfl, b1⟩
  · have hs' : s.size ≤ 70368744177664 := by omega
    obtain ⟨i0, hi, hz0, hz1, hz2⟩ := info_parts info_u8
    have hsz := M.sz_pos s.size
    have hnn : (n != n) = false := by simp
    by_cases rn : 0 ≤ n ∧ n < 562949953421312
    · obtain ⟨h0, h1⟩ := rn
      have hsn := M.sz_pos n
      have hd0 : decide (0 ≤ n) = true := by simpa using h0
      have hd1 : decide (n ≤ 562949953421311) = true := by simp; omega
      go_enter Try.func5, Try.ntmps5
      go_wp2_with fail
      refine (alive_any _).mono ?_
      rintro e w1 ⟨rfl, b1⟩
      go_wp2_with fail
      refine (put_right n _ h0 h1).mono ?_
      rintro e w2 ⟨g, rfl, hown, b2⟩
      go_wp2_with fail
      refine (puttext_bs s _ hs').mono ?_
      rintro e w3 ⟨v3, rfl, h3, b3⟩
      have hown3 := hown.kept (World.grownBy.of_below (row := none) b3) (.inr (by simp [Value.ownBlock]))
      have hl3 := encText_length s
      obtain ⟨gb, go, c3, rfl, _, _, _⟩ := h3.inv (by omega)
      rw [hl3] at h3 ⊢
      have hce := cells_at h3
      have b03 := bt b1 (bt b2 b3)
      have hw1 : w1.heap.size ≤ w3.heap.size := (bt b2 b3).size
      clear b3 h3 hown
      go_wp2_with (at_builtin; refine wpList_append_own _ rfl (.tmp 26) (.tmp 28) 23 rfl w1.heap.size 5 i0 (.int .u8 0) 1 1 Try.underlying23 hi hz0 hz1 hz2 rfl (by decide) _ _ _ rfl hown3 ⟨gb, go, none⟩ (M.sz s.size + s.size) c3 (cs (M.encText s)) rfl ?c0 hce (ints_oneCell .u8 _) ?c3 ?c4 hw1 ?_)
      case c0 => simp [hl3]
      case c3 => unfold maxLen; omega
      case c4 => omega
      intro v4 w4 hown4 hgrow _
      have b04 : Below w.heap.size w w4 := b03.grown hgrow b03.size (fun k hk => Nat.le_trans b1.size (hown3.lt k hk).1)
      have hB : Bs w4 v4 (M.enc n ++ M.encText s) := by
        refine Bs.of_own (base := w1.heap.size) (e := 5) (n := M.sz n + (M.sz s.size + s.size)) ?_ ?_
        · have := hown4
          simpa [cs] using this
        · intro x hx
          rcases List.mem_append.1 hx with h | h
          · exact M.enc_byte n h0 h1 x h
          · exact encText_byte s hs' x h
      have hln : (M.enc n ++ M.encText s).length = M.sz n + (M.sz s.size + s.size) := by rw [List.length_append, M.enc_length, hl3]
      obtain ⟨g4, o4, c4, rfl, hc4, _, _⟩ := hB.inv (by omega)
      obtain ⟨T, hT⟩ : ∃ T, (M.enc n ++ M.encText s).length = T := ⟨_, rfl⟩
      have hTe : T = M.sz n + (M.sz s.size + s.size) := by omega
      rw [hT] at hB hc4 ⊢
      have hTb : T ≤ 30000 := by omega
      have hT1 : 1 < T := by omega
      have HTL := hid hT
      have HTE := hid hTe
      clear hown4 hgrow hown3 hce hl3 b03 hw1 b1 b2 hT hTe hln
      have hTz : ((T : Int) == 0) = false := by simp; omega
      have hTc : (T : Int) - 1 ≤ (c4 : Int) := by omega
      go_wp2_with fail
      refine (at_any _ _ _ hB (by have := HTL.out; omega)).mono ?_
      rintro e w5 ⟨bc, rfl, hbc, hcur, b5⟩
      have hbc0 : w.heap.size ≤ bc := Nat.le_trans b04.size hbc
      have b05 := bt b04 b5
      have hB5 := hB.below b5
      clear hB b5 b04 hbc
      go_wp2_with fail
      refine (num_any bc _ _ n _ hcur).mono ?_
      rintro e w6 ⟨rfl, hcur6, g6⟩
      have hne := num_enc h0 h1 (Int.le_refl _) (M.encText s) false
      rw [hne.1]
      rw [hne.2.1, hne.2.2] at hcur6
      have b06 := bg b05 g6 hbc0
      have hB6 := hB5.keeps (hcur.keeps g6)
      clear hne b05 g6 hB5 hcur
      go_wp2_with fail
      refine (text_any bc _ _ s.size _ hcur6).mono ?_
      rintro e w7 ⟨rfl, hcur7, g7⟩
      have hte := text_enc hs' (Int.le_refl _) [] false
      rw [List.append_nil] at hte
      rw [hte.1, M.str_ofStr]
      rw [hte.2.1, hte.2.2] at hcur7
      have b07 := bg b06 g7 hbc0
      have hB7 := hB6.keeps (hcur6.keeps g7)
      clear hte b06 g7 hB6 hcur6
      go_wp2_with fail
      refine (end_any bc _ _ _ hcur7).mono ?_
      rintro e w8 ⟨rfl, rfl⟩
      have htk := Bs.take hB7 (T - 1) (by omega)
      have HT := hid htk
      clear htk hB7 hcur7
      go_wp2_with fail
      refine (at_any _ _ _ HT.out (by rw [List.length_take]; omega)).mono ?_
      rintro e w9 ⟨bd, rfl, hbd, hcur9, b9⟩
      have hbd0 : w.heap.size ≤ bd := Nat.le_trans b07.size hbd
      have b09 := bt b07 b9
      clear b07 b9 hbd HT
      have etk : (M.enc n ++ M.encText s).take (T - 1) = M.enc n ++ (M.encText s).take (M.sz s.size + s.size - 1) := by
        rw [List.take_append, List.take_of_length_le (by rw [M.enc_length, HTE.out]; omega), M.enc_length, HTE.out, show M.sz n + (M.sz s.size + s.size) - 1 - M.sz n = M.sz s.size + s.size - 1 by omega]
      rw [etk] at hcur9
      go_wp2_with fail
      refine (num_any bd _ _ n _ hcur9).mono ?_
      rintro e w10 ⟨rfl, hcur10, g10⟩
      have hne := num_enc h0 h1 (Int.le_refl _) ((M.encText s).take (M.sz s.size + s.size - 1)) false
      rw [hne.2.1, hne.2.2] at hcur10
      have b010 := bg b09 g10 hbd0
      clear hne b09 g10 hcur9 etk
      go_wp2_with fail
      refine (text_any bd _ _ s.size _ hcur10).mono ?_
      rintro e w11 ⟨rfl, hcur11, g11⟩
      have htc := text_cut hs' false
      rw [htc.1, show M.str [] = ⟨#[]⟩ from rfl]
      rw [htc.2] at hcur11
      have b011 := bg b010 g11 hbd0
      clear htc b010 g11 hcur10
      go_wp2_with fail
      refine (lost_any bd _ _ _ hcur11).mono ?_
      rintro e w12 ⟨rfl, rfl⟩
      go_wp2_with fail
      refine (end_any bd _ _ _ hcur11).mono ?_
      rintro e w13 ⟨rfl, rfl⟩
      go_wp2
      go_ret
      exact ⟨rfl, b011⟩
    · by_cases hneg : n < 0
      · have hd0 : decide (0 ≤ n) = false := by simp; omega
        go_enter Try.func5, Try.ntmps5
        go_wp2_with fail
        refine (alive_any _).mono ?_
        rintro e w1 ⟨rfl, b1⟩
        go_wp2_with fail
        refine (put_wrong n _ (by omega)).mono ?_
        rintro e w2 ⟨rfl, rfl⟩
        go_wp2_with fail
        refine (puttext_bs s _ hs').mono ?_
        rintro e w3 ⟨v3, rfl, h3, b3⟩
        have hown3 := World.ownsRow_nil w3 w1.heap.size 5 1
        have hl3 := encText_length s
        obtain ⟨gb, go, c3, rfl, _, _, _⟩ := h3.inv (by omega)
        rw [hl3] at h3 ⊢
        have hce := cells_at h3
        have b03 := bt b1 b3
        have hw1 : w1.heap.size ≤ w3.heap.size := b3.size
        clear b3 h3
        go_wp2_with (at_builtin; refine wpList_append_own _ rfl (.tmp 26) (.tmp 28) 23 rfl w1.heap.size 5 i0 (.int .u8 0) 1 1 Try.underlying23 hi hz0 hz1 hz2 rfl (by decide) _ _ _ rfl hown3 ⟨gb, go, none⟩ (M.sz s.size + s.size) c3 (cs (M.encText s)) rfl ?c0 hce (ints_oneCell .u8 _) ?c3 ?c4 hw1 ?_)
        case c0 => simp [hl3]
        case c3 => unfold maxLen; omega
        case c4 => omega
        intro v4 w4 hown4 hgrow _
        have b04 : Below w.heap.size w w4 := b03.grown hgrow b03.size (fun k hk => by simp [Value.ownBlock] at hk)
        have hB : Bs w4 v4 (M.encText s) := by
          refine Bs.of_own (base := w1.heap.size) (e := 5) (n := M.sz s.size + s.size) ?_ ?_
          · have := hown4
            simpa [cs] using this
          · exact encText_byte s hs'
        have hln : (M.encText s).length = M.sz s.size + s.size := hl3
        obtain ⟨g4, o4, c4, rfl, hc4, _, _⟩ := hB.inv (by omega)
        obtain ⟨T, hT⟩ : ∃ T, (M.encText s).length = T := ⟨_, rfl⟩
        have hTe : T = M.sz s.size + s.size := by omega
        rw [hT] at hB hc4 ⊢
        have hTb : T ≤ 30000 := by omega
        have hT1 : 0 < T := by omega
        have HTL := hid hT
        have HTE := hid hTe
        clear hown4 hgrow hown3 hce hl3 b03 hw1 b1 hT hTe hln
        have hTz : ((T : Int) == 0) = false := by simp; omega
        have hTc : (T : Int) - 1 ≤ (c4 : Int) := by omega
        go_wp2_with fail
        refine (at_any _ _ _ hB (by have := HTL.out; omega)).mono ?_
        rintro e w5 ⟨bc, rfl, hbc, hcur, b5⟩
        have hbc0 : w.heap.size ≤ bc := Nat.le_trans b04.size hbc
        have b05 := bt b04 b5
        have hB5 := hB.below b5
        clear hB b5 b04 hbc
        go_wp2_with fail
        refine (text_any bc _ _ s.size _ hcur).mono ?_
        rintro e w7 ⟨rfl, hcur7, g7⟩
        have hte := text_enc hs' (Int.le_refl _) [] false
        rw [List.append_nil] at hte
        rw [hte.1, M.str_ofStr]
        rw [hte.2.1, hte.2.2] at hcur7
        have b07 := bg b05 g7 hbc0
        have hB7 := hB5.keeps (hcur.keeps g7)
        clear hte b05 g7 hB5 hcur
        go_wp2_with fail
        refine (end_any bc _ _ _ hcur7).mono ?_
        rintro e w8 ⟨rfl, rfl⟩
        have htk := Bs.take hB7 (T - 1) (by omega)
        have HT := hid htk
        clear htk hB7 hcur7
        go_wp2_with fail
        refine (at_any _ _ _ HT.out (by rw [List.length_take]; omega)).mono ?_
        rintro e w9 ⟨bd, rfl, hbd, hcur9, b9⟩
        have hbd0 : w.heap.size ≤ bd := Nat.le_trans b07.size hbd
        have b09 := bt b07 b9
        clear b07 b9 hbd HT
        rw [HTE.out] at hcur9
        go_wp2_with fail
        refine (text_any bd _ _ s.size _ hcur9).mono ?_
        rintro e w11 ⟨rfl, hcur11, g11⟩
        have htc := text_cut hs' false
        rw [htc.1, show M.str [] = ⟨#[]⟩ from rfl]
        rw [htc.2] at hcur11
        have b011 := bg b09 g11 hbd0
        clear htc b09 g11 hcur9
        go_wp2_with fail
        refine (lost_any bd _ _ _ hcur11).mono ?_
        rintro e w12 ⟨rfl, rfl⟩
        go_wp2_with fail
        refine (end_any bd _ _ _ hcur11).mono ?_
        rintro e w13 ⟨rfl, rfl⟩
        go_wp2
        go_ret
        exact ⟨rfl, b011⟩
      · have hd0 : decide (0 ≤ n) = true := by simp; omega
        have hd1 : decide (n ≤ 562949953421311) = false := by simp; omega
        go_enter Try.func5, Try.ntmps5
        go_wp2_with fail
        refine (alive_any _).mono ?_
        rintro e w1 ⟨rfl, b1⟩
        go_wp2_with fail
        refine (put_wrong n _ (by omega)).mono ?_
        rintro e w2 ⟨rfl, rfl⟩
        go_wp2_with fail
        refine (puttext_bs s _ hs').mono ?_
        rintro e w3 ⟨v3, rfl, h3, b3⟩
        have hown3 := World.ownsRow_nil w3 w1.heap.size 5 1
        have hl3 := encText_length s
        obtain ⟨gb, go, c3, rfl, _, _, _⟩ := h3.inv (by omega)
        rw [hl3] at h3 ⊢
        have hce := cells_at h3
        have b03 := bt b1 b3
        have hw1 : w1.heap.size ≤ w3.heap.size := b3.size
        clear b3 h3
        go_wp2_with (at_builtin; refine wpList_append_own _ rfl (.tmp 26) (.tmp 28) 23 rfl w1.heap.size 5 i0 (.int .u8 0) 1 1 Try.underlying23 hi hz0 hz1 hz2 rfl (by decide) _ _ _ rfl hown3 ⟨gb, go, none⟩ (M.sz s.size + s.size) c3 (cs (M.encText s)) rfl ?c0 hce (ints_oneCell .u8 _) ?c3 ?c4 hw1 ?_)
        case c0 => simp [hl3]
        case c3 => unfold maxLen; omega
        case c4 => omega
        intro v4 w4 hown4 hgrow _
        have b04 : Below w.heap.size w w4 := b03.grown hgrow b03.size (fun k hk => by simp [Value.ownBlock] at hk)
        have hB : Bs w4 v4 (M.encText s) := by
          refine Bs.of_own (base := w1.heap.size) (e := 5) (n := M.sz s.size + s.size) ?_ ?_
          · have := hown4
            simpa [cs] using this
          · exact encText_byte s hs'
        have hln : (M.encText s).length = M.sz s.size + s.size := hl3
        obtain ⟨g4, o4, c4, rfl, hc4, _, _⟩ := hB.inv (by omega)
        obtain ⟨T, hT⟩ : ∃ T, (M.encText s).length = T := ⟨_, rfl⟩
        have hTe : T = M.sz s.size + s.size := by omega
        rw [hT] at hB hc4 ⊢
        have hTb : T ≤ 30000 := by omega
        have hT1 : 0 < T := by omega
        have HTL := hid hT
        have HTE := hid hTe
        clear hown4 hgrow hown3 hce hl3 b03 hw1 b1 hT hTe hln
        have hTz : ((T : Int) == 0) = false := by simp; omega
        have hTc : (T : Int) - 1 ≤ (c4 : Int) := by omega
        go_wp2_with fail
        refine (at_any _ _ _ hB (by have := HTL.out; omega)).mono ?_
        rintro e w5 ⟨bc, rfl, hbc, hcur, b5⟩
        have hbc0 : w.heap.size ≤ bc := Nat.le_trans b04.size hbc
        have b05 := bt b04 b5
        have hB5 := hB.below b5
        clear hB b5 b04 hbc
        go_wp2_with fail
        refine (text_any bc _ _ s.size _ hcur).mono ?_
        rintro e w7 ⟨rfl, hcur7, g7⟩
        have hte := text_enc hs' (Int.le_refl _) [] false
        rw [List.append_nil] at hte
        rw [hte.1, M.str_ofStr]
        rw [hte.2.1, hte.2.2] at hcur7
        have b07 := bg b05 g7 hbc0
        have hB7 := hB5.keeps (hcur.keeps g7)
        clear hte b05 g7 hB5 hcur
        go_wp2_with fail
        refine (end_any bc _ _ _ hcur7).mono ?_
        rintro e w8 ⟨rfl, rfl⟩
        have htk := Bs.take hB7 (T - 1) (by omega)
        have HT := hid htk
        clear htk hB7 hcur7
        go_wp2_with fail
        refine (at_any _ _ _ HT.out (by rw [List.length_take]; omega)).mono ?_
        rintro e w9 ⟨bd, rfl, hbd, hcur9, b9⟩
        have hbd0 : w.heap.size ≤ bd := Nat.le_trans b07.size hbd
        have b09 := bt b07 b9
        clear b07 b9 hbd HT
        rw [HTE.out] at hcur9
        go_wp2_with fail
        refine (text_any bd _ _ s.size _ hcur9).mono ?_
        rintro e w11 ⟨rfl, hcur11, g11⟩
        have htc := text_cut hs' false
        rw [htc.1, show M.str [] = ⟨#[]⟩ from rfl]
        rw [htc.2] at hcur11
        have b011 := bg b09 g11 hbd0
        clear htc b09 g11 hcur9
        go_wp2_with fail
        refine (lost_any bd _ _ _ hcur11).mono ?_
        rintro e w12 ⟨rfl, rfl⟩
        go_wp2_with fail
        refine (end_any bd _ _ _ hcur11).mono ?_
        rintro e w13 ⟨rfl, rfl⟩
        go_wp2
        go_ret
        exact ⟨rfl, b011⟩

namespace numBack
open Go.ChangeShapes Go.WideShapes Go.ChangeAt
open Go.ChangeMaps (open_string shut_string)

theorem own : ownKnob Try.prog.godebug = none := by kernel_rfl
theorem laidOut : laidOutB Try.prog = true := by kernel_rfl

set_option maxRecDepth 100000 in
theorem lifted (os : Os) (started : os.Started) (H : Type) (enc : TypeId × Value → H) :
    ReturnsInHanded {} Try.checked os 5 .any (Rows.numBackSpec.pre6 enc Try.prog Try.f5 Rows.numBackRow.domain false) (Rows.numBackSpec.post enc Try.prog Try.f5 false true false false) := by
  refine returnsInHanded_of_change (C := Try.checked) own started (by kernel_rfl) Try.func5
    (ChangeSpec.witness6 (enc := enc) (C := Try.checked) false ⟨#[], #[.int .i64 0, .string ByteArray.empty], []⟩ 8 (by kernel_rfl) (by kernel_rfl) (by kernel_rfl) (by kernel_rfl)) ?_
  intro W base args ds gs before hval0 hW hcnd _
  have hval : ∀ (j : Nat) t v, Try.f5.params[j]? = some t → args[j]? = some v → Value.okWide Try.prog W .any base t v := hval0
  have hW' := hW
  obtain ⟨p, q, hA0, hV, rfl, hfz, hnd⟩ := hW
  have hA : DataW.TrodAll enc Try.prog W 0 (fun _ => true) true Try.f5.params.toList args.toList ds p := hA0
  rw [Try.params5] at hA hval
  obtain ⟨v0, vs0, d0, ds0, p0, q0, hargs, rfl, rfl, h0, r0⟩ := trodAll_cons hA
  obtain ⟨v1, vs1, d1, ds1, p1, q1, rfl, rfl, rfl, h1, r1⟩ := trodAll_cons r0
  obtain ⟨rfl, rfl, rfl⟩ := trodAll_nil r1
  obtain rfl : args = #[v0, v1] := by cases args; simp_all
  obtain ⟨rfl, rfl⟩ := trodVars_none hV
  obtain ⟨a0, rfl, rfl, rfl, w0⟩ := open_int Try.underlying3 (hval 0 3 v0 rfl rfl) h0
  obtain ⟨a1, rfl, rfl, rfl, w1⟩ := open_string Try.underlying9 (hval 1 9 v1 rfl rfl) h1
  clear hA0 hval0
  simp only [List.append_nil] at hW'
  refine (back_any a0 a1 W w0 w1).mono fun e W' ⟨he, bel⟩ => ?_
  subst he
  exact ⟨_, rfl, _, _, _, [], [], [], hW', trodAll_mk1 (shut_bool Try.underlying4 _), (trodAll_cons_mk (shut_int Try.underlying3 w0) (trodAll_cons_mk (shut_string Try.underlying9 w1) trodAll_mk0)), rfl, bel.frame _, fun h => by cases h⟩

theorem over : Rows.numBackRow.holds Try.pinned (OpenSpec.ofChange Rows.numBackSpec) :=
  OpenClaim.holds_of_wide 5 Try.f5 rfl rfl rfl rfl rfl rfl rfl ⟨rfl, rfl, rfl, rfl, rfl⟩ rfl rfl rfl rfl rfl (by kernel_rfl) Try.func5 (by kernel_rfl)
    (of_decide_eq_true (by kernel_rfl)) (by unfold Func.isWrapper; first | (rw [if_pos (by decide +kernel)]; kernel_rfl) | (rw [if_neg (by decide +kernel)]; exact ⟨rfl, rfl⟩))
    (fun os started H enc _ => lifted os started H enc)
end numBack

/-- THE STATEMENT. -/
theorem numBack_holds : Rows.NumBackSaid := numBack.over


end Go.Proofs.Ythlieokodljhkaa
