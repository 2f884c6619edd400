/-
  Parts of the proof, one behind the other; what each proves stands at its head.
-/
import Derived.Test.YteckjkblngmenaaGreatDoorPart1
import Derived.Test.YteckjkblngmenaaGreatDoorPart9
import Derived.Test.YteckjkblngmenaaGreatDoorPart2
import Derived.Deep.QuietTactic
import Derived.BigQuiet
import Derived.RegionTactic
import Derived.Test.YteckjkblngmenaaGreatDoorPart8
import Derived.Test.YteckjkblngmenaaGreatDoorPart5

/-
  What oplog's firstFrame, frame and readFirst return is proved here.
-/
namespace Go.Proofs.YteckjkblngmenaaGreatDoor
open Go.RowKit
set_option linter.unusedVariables false
set_option maxRecDepth 100000

/-- The bytes of a first frame. -/
def fb0 (r : Int) : List Int := encA [] ++ M.enc r
theorem fb0_len {r : Int} (h0 : 0 ≤ r) (h1 : r ≤ 15) : (fb0 r).length = 2 := by
  unfold fb0 encA
  rw [List.length_append, List.length_append, M.enc_length, M.enc_length]
  have e1 : M.sz r = 1 := by unfold M.sz; rw [if_pos (by omega)]
  have e2 : M.sz (([] : List Opn).length : Int) = 1 := by decide
  rw [e1, e2]
  rfl
theorem fb0_byt {r : Int} (h0 : 0 ≤ r) (h1 : r ≤ 15) : Byt (fb0 r) := by
  unfold fb0 encA
  refine Byt.append (Byt.append (M.enc_byte _ (by decide) (by decide)) (fun x hx => by cases hx)) (M.enc_byte _ h0 (by omega))

set_option maxHeartbeats 2000000 in
theorem firstframe_any (r : Int) (w : World) (hL : Lay w) (h0 : 0 ≤ r) (h1 : r ≤ 15) :
    Calls Tryz.prog 43 #[.int .i64 r] w fun e w' => ∃ v', e = .returned v' ∧ Ow w.heap.size w' v' (C.frame (fb0 r)) ∧ Below w.heap.size w w' := by
  have HL := hid hL
  have HE := hid (encodeall_big (.slice none 0 0) [] w hL ⟨Sl.nil _ _, fun p hp => by cases hp⟩ (fun p hp => by cases hp) (by simp))
  have hx : (fsts []).all rightO = true := rfl
  rw [hx] at HE
  simp only [if_true] at HE
  have e0 : (fsts []) = [] := rfl
  rw [e0] at HE
  have e1 : (encA []).length = 1 := by decide
  rw [e1] at HE
  have HBY := hid (fb0_byt h0 h1)
  have hlen := fb0_len h0 h1
  have HLEN := hid hlen
  have hz : M.sz r = 1 := by unfold M.sz; rw [if_pos (by omega)]
  have HP := hid (fun W => put_bs r W h0 (by omega))
  have hel : (M.enc r).length = 1 := by rw [M.enc_length, hz]
  have HEL := hid hel
  have hb0 : fb0 r = encA [] ++ M.enc r := rfl
  have HB0 := hid hb0
  obtain ⟨fb, hfb⟩ : ∃ fb, fb0 r = fb := ⟨_, rfl⟩
  rw [hfb] at HBY HLEN HB0 ⊢
  clear hL hlen hz hel hb0 hfb h0 h1 e1 e0 hx
  go_enter Tryz.func43, Tryz.ntmps43
  go_wp2_with fail
  refine HE.out.mono ?_
  rintro e w1 ⟨u1, rfl, _, b1, o1⟩
  have B1 := hid b1
  obtain ⟨a1, c1, rfl, _⟩ := own_form o1
  have O1 := hid o1
  clear b1 o1 HE
  go_wp2_with fail
  refine (HP.out w1).mono ?_
  rintro e w2 ⟨u2, rfl, hb2, b2⟩
  have B2 := hid (bt B1.out b2)
  have O2 := hid (own_below O1.out b2)
  obtain ⟨a2, c2, rfl⟩ := hb2.form
  have U2 := hid hb2
  clear hb2 b2 HP
  go_wp2_with (at_builtin; refine wpList_append_bs rfl _ _ rfl w.heap.size (.slice a1 1 c1) 1 (encA []) rfl O2.out _ (M.enc r) rfl U2.out (by rw [HEL.out]; decide) B2.out.size ?_; intro v3 w3 hown3 hg3 hv3; have O3 := hid hown3; have G3 := hid hg3; obtain ⟨a3,c3,rfl,_⟩ := own_form hown3; clear hown3 hg3 hv3)
  have hown : w3.ownsRow w.heap.size 5 1 (.slice a3 (1 + (M.enc r).length) c3) (1 + (M.enc r).length) (cs fb) := by rw [HB0.out]; exact O3.out
  have B3 : Hid (Below w.heap.size w w3) := hid (Below.grown B2.out G3.out B2.out.size (fun k hk => (O2.out.lt k hk).1))
  refine (frame_right _ fb w3 (Bs.of_own hown HBY.out) (by rw [HLEN.out]; decide)).mono ?_
  rintro e w4 ⟨u4, rfl, o4, b4⟩
  have B4 := hid (B3.out.trans (b4.mono B3.out.size))
  have hfl : 8 + fb.length = (C.frame fb).length := (C.frame_length fb).symm
  rw [hfl] at o4
  have O4 : Hid (Ow w.heap.size w4 u4 (C.frame fb)) := hid (Ow.mono o4 B3.out.size)
  clear o4 b4 hfl
  go_wp2
  go_ret
  exact ⟨_, rfl, O4.out, B4.out⟩

/-- What a list comes to as a frame: the error's number; the bytes. -/
def frE (l : List Opn) : Int := if l.all rightO = false ∨ l = [] then 10 else if 65536 < (encA l).length then 14 else 0
def frB (l : List Opn) : List Int := if frE l = 0 then C.frame (encA l) else []

set_option maxHeartbeats 2000000 in
theorem frame_any (va : Value) (l : List (Opn × Value)) (w : World) (hL : Lay w) (hO : Os w va l) (hf : ∀ p ∈ l, p.1.fine) (hn : l.length ≤ 1000000) :
    Calls Tryz.prog 48 #[va] w fun e w' => ∃ v', e = .returned (.tuple #[v', .int .i64 (frE (fsts l))]) ∧ Bs w' v' (frB (fsts l)) ∧ Below w.heap.size w w' := by
  have HE := hid (encodeall_big va l w hL hO hf hn)
  obtain ⟨a, c, rfl, _, _⟩ := Sl.form hO.1
  have hll : (fsts l).length = l.length := by simp [fsts]
  have hnil : fsts l = [] ↔ l.length = 0 := by rw [← hll]; exact List.length_eq_zero_iff.symm
  obtain ⟨F, hF⟩ : ∃ F, fsts l = F := ⟨_, rfl⟩
  rw [hF] at HE hnil ⊢
  have HNIL := hid hnil
  obtain ⟨n, hnn⟩ : ∃ n, l.length = n := ⟨_, rfl⟩
  rw [hnn] at HE HNIL ⊢
  clear hL hO hf hn hll hnil hF hnn
  cases hT : F.all rightO with
  | false =>
    have he : frE F = 10 := by unfold frE; rw [if_pos (.inl hT)]
    have hb : frB F = [] := by unfold frB; rw [he]; rfl
    rw [he, hb]
    rw [hT] at HE
    simp only [Bool.false_eq_true, if_false] at HE
    clear he hb
    go_enter Tryz.func48, Tryz.ntmps48
    go_wp2_with fail
    refine HE.out.mono ?_
    rintro e w1 ⟨u1, rfl, _, b1, o1⟩
    have B1 := hid b1
    clear b1 o1 HE
    go_wp2
    go_ret2
    exact ⟨_, rfl, Bs.nil _, B1.out⟩
  | true =>
    rw [hT] at HE
    simp only [if_true] at HE
    by_cases h0 : n = 0
    · have he : frE F = 10 := by unfold frE; rw [if_pos (.inr (HNIL.out.2 h0))]
      have hb : frB F = [] := by unfold frB; rw [he]; rfl
      rw [he, hb]
      subst h0
      clear he hb
      go_enter Tryz.func48, Tryz.ntmps48
      go_wp2_with fail
      refine HE.out.mono ?_
      rintro e w1 ⟨u1, rfl, _, b1, o1⟩
      have B1 := hid b1
      clear b1 o1 HE
      go_wp2
      go_ret2
      exact ⟨_, rfl, Bs.nil _, B1.out⟩
    · have hne : F ≠ [] := fun e => h0 (HNIL.out.1 e)
      have hz : ((n : Int) == 0) = false := by simp; omega
      by_cases hbig : 65536 < (encA F).length
      · have he : frE F = 14 := by unfold frE; rw [if_neg (by rw [hT]; simp [hne]), if_pos hbig]
        have hb : frB F = [] := by unfold frB; rw [he]; rfl
        rw [he, hb]
        have HBIG := hid hbig
        clear he hb hbig hne
        go_enter Tryz.func48, Tryz.ntmps48
        go_wp2_with fail
        refine HE.out.mono ?_
        rintro e w1 ⟨u1, rfl, hb1, b1, o1⟩
        have B1 := hid b1
        have U1 := hid hb1
        clear b1 o1 HE hb1
        go_wp2_with fail
        refine (frame_wrong u1 _ w1 U1.out HBIG.out).mono ?_
        rintro e w2 ⟨rfl, rfl⟩
        go_wp2
        go_ret2
        exact ⟨_, rfl, Bs.nil _, B1.out⟩
      · have he : frE F = 0 := by unfold frE; rw [if_neg (by rw [hT]; simp [hne]), if_neg hbig]
        have hb : frB F = C.frame (encA F) := by unfold frB; rw [he]; rfl
        rw [he, hb]
        have HBIG := hid (Nat.le_of_not_lt hbig)
        clear he hb hbig hne
        go_enter Tryz.func48, Tryz.ntmps48
        go_wp2_with fail
        refine HE.out.mono ?_
        rintro e w1 ⟨u1, rfl, hb1, b1, o1⟩
        have B1 := hid b1
        have U1 := hid hb1
        clear b1 o1 HE hb1
        go_wp2_with fail
        refine (frame_bs u1 _ w1 U1.out HBIG.out).mono ?_
        rintro e w2 ⟨u2, rfl, hb2, b2⟩
        have B2 := hid (bt B1.out b2)
        have U2 := hid hb2
        clear hb2 b2
        go_wp2
        go_ret2
        exact ⟨_, rfl, U2.out, B2.out⟩

/-- What readFirst reads. -/
def rfS (xs : List Int) : Int × St := rn 15 (rn 0 (xs, false)).2
def rfV (xs : List Int) : Int := (rfS xs).1
def rfO (xs : List Int) : Bool := !(rfS xs).2.2 && (rfS xs).2.1.isEmpty

set_option maxHeartbeats 2000000 in
theorem readfirst_any (va : Value) (xs : List Int) (w : World) (h : Bs w va xs) (hn : xs.length ≤ 140737488355328) :
    Calls Tryz.prog 61 #[va] w fun e w' => e = .returned (.tuple #[.int .i64 (rfV xs), .bool (rfO xs)]) ∧ Below w.heap.size w w' := by
  have HA := hid (at_any va xs w h hn)
  have HX := hid (show rfV xs = M.numV 15 (M.numS 0 xs) ∧ rfO xs = (!(M.numL 15 (M.numS 0 xs) (M.numL 0 xs false)) && (M.numS 15 (M.numS 0 xs)).isEmpty) from ⟨rfl, rfl⟩)
  obtain ⟨V, hV⟩ : ∃ V, rfV xs = V := ⟨_, rfl⟩
  obtain ⟨O, hO⟩ : ∃ O, rfO xs = O := ⟨_, rfl⟩
  rw [hV, hO] at HX ⊢
  clear h hV hO
  go_enter Tryz.func61, Tryz.ntmps61
  go_wp2_with fail
  refine HA.out.mono ?_
  rintro e w1 ⟨b, rfl, hb, hc, b1⟩
  have C1 := hid hc
  have B1 := hid b1
  clear hc b1 HA
  go_wp2_with fail
  refine (num_any b xs false 0 w1 C1.out).mono ?_
  rintro e w2 ⟨rfl, hc2, hg2⟩
  have C2 := hid hc2
  have B2 := hid (bg B1.out hg2 hb)
  clear hc2 hg2 C1
  go_wp2_with fail
  refine (num_any b _ _ 15 w2 C2.out).mono ?_
  rintro e w3 ⟨rfl, hc3, hg3⟩
  have C3 := hid hc3
  have B3 := hid (bg B2.out hg3 hb)
  clear hc3 hg3 C2
  go_wp2_with fail
  refine (end_any b _ _ w3 C3.out).mono ?_
  rintro e w4 ⟨rfl, rfl⟩
  rw [← HX.out.1, ← HX.out.2]
  go_wp2
  go_ret2
  exact ⟨rfl, B3.out⟩
end Go.Proofs.YteckjkblngmenaaGreatDoor

/-
  What a file's Room, Size, Synced, Sync, Append, Replace and Bytes do is proved here, for all files and bytes.
-/
namespace Go.Proofs.YteckjkblngmenaaGreatDoor
open Go.RowKit
set_option linter.unusedVariables false
set_option maxRecDepth 100000

section
variable {B : Nat} {w : World} {b : Nat} {v : Value} {xs : List Int} {n R : Nat}

set_option maxHeartbeats 1000000 in
theorem room_any (h : Fi B w b v xs n R) : Calls Tryz.prog 49 #[.pointer (some ⟨b, 0, none⟩)] w fun e w' => e = .returned (.int .i64 ((R : Int) - xs.length)) ∧ ∃ m, w' = w.drewN m := by
  obtain ⟨hn, hl, hR⟩ := h.nums
  obtain ⟨a, c, rfl, hc, c0, c1, c2, -, -⟩ := h.cells
  clear h
  go_enter Tryz.func49, Tryz.ntmps49
  go_wp2
  go_quiet (fail)
  go_wp2
  go_ret
  exact ⟨rfl, _, rfl⟩

set_option maxHeartbeats 1000000 in
theorem fsize_any (h : Fi B w b v xs n R) : Calls Tryz.prog 50 #[.pointer (some ⟨b, 0, none⟩)] w fun e w' => e = .returned (.int .i64 xs.length) ∧ w = w' := by
  obtain ⟨a, c, rfl, hc, c0, c1, c2, -, -⟩ := h.cells
  clear h
  go_enter Tryz.func50, Tryz.ntmps50
  go_wp2
  go_ret
  exact ⟨rfl, rfl⟩

set_option maxHeartbeats 1000000 in
theorem synced_any (h : Fi B w b v xs n R) : Calls Tryz.prog 31 #[.pointer (some ⟨b, 0, none⟩)] w fun e w' => e = .returned (.int .i64 n) ∧ w = w' := by
  obtain ⟨a, c, rfl, hc, c0, c1, c2, -, -⟩ := h.cells
  clear h
  go_enter Tryz.func31, Tryz.ntmps31
  go_wp2
  go_ret
  exact ⟨rfl, rfl⟩

set_option maxHeartbeats 1000000 in
theorem sync_any (h : Fi B w b v xs n R) : Calls Tryz.prog 57 #[.pointer (some ⟨b, 0, none⟩)] w fun e w' => e = .returned (.tuple #[]) ∧ Fi B w' b v xs xs.length R ∧ Fx b v v w w' := by
  have HF := hid h
  obtain ⟨a, c, rfl, hc, c0, c1, c2, f0, f1⟩ := h.cells
  clear h
  go_enter Tryz.func57, Tryz.ntmps57
  go_wp2
  go_end0
  exact ⟨rfl, HF.out.mark _ HF.out.nums.2.1⟩

set_option maxHeartbeats 1000000 in
theorem bytes_any (h : Fi B w b v xs n R) : Calls Tryz.prog 30 #[.pointer (some ⟨b, 0, none⟩)] w fun e w' => ∃ v', e = .returned v' ∧ Ow w.heap.size w' v' xs ∧ Below w.heap.size w w' := by
  have HF := hid h
  obtain ⟨hn, hl, hR⟩ := h.nums
  obtain ⟨a, c, rfl, hc, c0, c1, c2, -, -⟩ := h.cells
  clear h
  go_enter Tryz.func30, Tryz.ntmps30
  go_wp2_with fail
  refine (sclone_any _ xs w HF.out.bs (by omega)).mono ?_
  rintro e w1 ⟨v1, rfl, hO, hb⟩
  have HO := hid hO
  have HB := hid hb
  clear hO hb
  go_wp2
  go_ret
  exact ⟨_, rfl, HO.out, HB.out⟩

set_option maxHeartbeats 2000000 in
theorem fappend_any (hB : B ≤ w.heap.size) (h : Fi B w b v xs n R) (u : Value) (ys : List Int) (hu : Bs w u ys) :
    Calls Tryz.prog 51 #[.pointer (some ⟨b, 0, none⟩), u] w fun e w' =>
      Fe (appS R ys xs n) e ∧ Fo B b R v w (appS R ys xs n) w' := by
  have HF := hid h
  have HU := hid hu
  obtain ⟨hn, hl, hR⟩ := h.nums
  have hm := hu.len
  unfold maxLen at hm
  obtain ⟨ua, uc, rfl⟩ := hu.form
  obtain ⟨N, hN⟩ : ∃ N, xs.length = N := ⟨_, rfl⟩
  obtain ⟨M, hM⟩ : ∃ M, ys.length = M := ⟨_, rfl⟩
  have HN := hid hN
  have HM := hid hM
  by_cases hlt : (R : Int) - N < M
  · rw [hN] at hl
    rw [hM] at hm ⊢
    clear h hu hN hM
    go_enter Tryz.func51, Tryz.ntmps51
    go_wp2_with fail
    refine (room_any HF.out).mono ?_
    rintro e w1 ⟨rfl, m, rfl⟩
    rw [HN.out]
    go_wp2
    go_ret
    have hr : appS R ys xs n = (14, xs, n) := if_neg (by rw [HN.out, HM.out]; omega)
    exact ⟨Fe.mk hr, Fo.mk (HF.out.drewN _) (Fx.of_below (bd _ _)) hr⟩
  · have hlt' : ¬ (R : Int) - N < M := hlt
    have hle : N + M ≤ R := by omega
    obtain ⟨a, c, rfl, hc, c0, c1, c2, f0, f1⟩ := h.cells
    have HO := hid h.own
    rw [hN] at hl hc c0 HO HF ⊢
    rw [hM] at hm HU ⊢
    clear h hu hN hM
    go_enter Tryz.func51, Tryz.ntmps51
    go_wp2_with fail
    refine (room_any HF.out).mono ?_
    rintro e w1 ⟨rfl, m, rfl⟩
    rw [HN.out]
    go_wp2_with (at_builtin; refine wpList_append_bs rfl (.tmp 14) (.tmp 15) rfl B (.slice a N c) N xs rfl ?c0 _ ys rfl ?c1 ?c2 ?c3 ?_)
    case c0 => have := HO.out; rw [Ow, HN.out] at this; exact this
    case c1 => exact HU.out
    case c2 => rw [HM.out]; omega
    case c3 => exact hB
    intro v1 w1 hown hgrow hv
    have hO : Ow B w1 v1 (xs ++ ys) := by rw [Ow, List.length_append, HN.out]; simpa [cs] using hown
    have hP := HF.out.put (w' := w1) (v' := v1) (ys := xs ++ ys) hO (Fr.of_grown (World.grownBy.of_drewN hgrow) (fun k hk => hk)) (HF.out.byt.append HU.out.range) (by rw [List.length_append, HN.out, HM.out]; omega) (fun k hk => by
      rcases hv with e | e
      · exact .inl (by rw [← e]; exact hk)
      · rw [e] at hk; simp at hk; exact .inr (by rw [← hk]; exact Nat.le_refl _))
    have HP := hid hP
    have qb := hgrow.block b HF.out.lt (Ne.symm HF.out.ne)
    have q1 : w1.frozen? ⟨b, 0, none⟩ = false := (World.frozen?_of_block (a := ⟨b, 0, none⟩) qb).trans f0
    have q2 : w1.cell? ⟨b, 0, none⟩ = some (.slice a N c) := (World.cell?_of_block (a := ⟨b, 0, none⟩) qb).trans c0
    clear qb
    obtain ⟨a1, k1, rfl, -⟩ := hO.form
    clear hown hgrow hv hO hP c0 c1 c2 f0 f1
    go_wp2
    go_ret
    have hr : appS R ys xs n = (0, xs ++ ys, n) := if_pos (by rw [HN.out, HM.out]; omega)
    have hP := HP.out
    rw [List.length_append] at hP
    exact ⟨Fe.mk hr, Fo.mk hP.1 hP.2 hr⟩

set_option maxHeartbeats 2000000 in
theorem freplace_any (hB : B ≤ w.heap.size) (h : Fi B w b v xs n R) (u : Value) (ys : List Int) (hu : Bs w u ys) :
    Calls Tryz.prog 42 #[.pointer (some ⟨b, 0, none⟩), u] w fun e w' =>
      Fe (repS R ys xs n) e ∧ Fo B b R v w (repS R ys xs n) w' := by
  have HF := hid h
  have HU := hid hu
  obtain ⟨hn, hl, hR⟩ := h.nums
  have hm := hu.len
  unfold maxLen at hm
  obtain ⟨ua, uc, rfl⟩ := hu.form
  obtain ⟨a, c, rfl, hc, c0, c1, c2, f0, f1⟩ := h.cells
  obtain ⟨M, hM⟩ : ∃ M, ys.length = M := ⟨_, rfl⟩
  have HM := hid hM
  rw [hM] at hm HU ⊢
  clear h hu hM
  by_cases hlt : (R : Int) < M
  · go_enter Tryz.func42, Tryz.ntmps42
    go_wp2
    go_ret
    have hr : repS R ys xs n = (14, xs, n) := if_neg (by rw [HM.out]; omega)
    exact ⟨Fe.mk hr, Fo.mk HF.out (Fx.refl _ _ _) hr⟩
  · have hlt' : ¬ (R : Int) < M := hlt
    go_enter Tryz.func42, Tryz.ntmps42
    go_wp2_with fail
    refine (sclone_any _ ys w HU.out (by rw [HM.out]; omega)).mono ?_
    rintro e w1 ⟨v1, rfl, hO, hb⟩
    have hF : ∀ k, v1.ownBlock = some k → w.heap.size ≤ k := fun k hk => (hO.lt k hk).1
    have hP := HF.out.put (w' := w1) (v' := v1) (ys := ys) (n := n) (hO.mono hB) (Fr.of_below hb) HU.out.range (by rw [HM.out]; omega) (fun k hk => .inr (hF k hk))
    have HP := hid hP
    have q1 : w1.frozen? ⟨b, 0, none⟩ = false := (World.frozen?_of_block (a := ⟨b, 0, none⟩) (hb.block b HF.out.lt)).trans f0
    have q2 : w1.cell? ⟨b, 0, none⟩ = some (.slice a xs.length c) := (World.cell?_of_block (a := ⟨b, 0, none⟩) (hb.block b HF.out.lt)).trans c0
    obtain ⟨a1, k1, rfl, -⟩ := hO.form
    clear hO hb hF hP c0 c1 c2 f0 f1
    go_wp2_with fail
    refine (sync_any HP.out.1).mono ?_
    rintro e w2 ⟨rfl, hF2, hX2⟩
    have HF2 := hid hF2
    have HX2 := hid hX2
    clear hF2 hX2
    go_wp2
    go_ret
    have hr : repS R ys xs n = (0, ys, ys.length) := if_pos (by rw [HM.out]; omega)
    exact ⟨Fe.mk hr, Fo.mk HF2.out (HP.out.2.trans HX2.out) hr⟩
end
end Go.Proofs.YteckjkblngmenaaGreatDoor

/-
  What a file's Trim and Crash do, and what file.Load and file.New return, is proved here, for all files, numbers and bytes.
-/
namespace Go.Proofs.YteckjkblngmenaaGreatDoor
open Go.RowKit
set_option linter.unusedVariables false
set_option maxRecDepth 100000

section
variable {B : Nat} {w : World} {b : Nat} {v : Value} {xs : List Int} {n R : Nat}

set_option maxHeartbeats 2000000 in
theorem ftrim_any (h : Fi B w b v xs n R) (k : Int) :
    Calls Tryz.prog 63 #[.pointer (some ⟨b, 0, none⟩), .int .i64 k] w fun e w' =>
      Fe (trimS k xs n) e ∧ Fo B b R v w (trimS k xs n) w' := by
  have HF := hid h
  obtain ⟨hn, hl, hR⟩ := h.nums
  obtain ⟨a, c, rfl, hc, c0, c1, c2, f0, f1⟩ := h.cells
  obtain ⟨N, hN⟩ : ∃ N, xs.length = N := ⟨_, rfl⟩
  have HN := hid hN
  rw [hN] at hl hc c0 HF ⊢
  clear h hN
  by_cases h1 : k < 0
  · go_enter Tryz.func63, Tryz.ntmps63
    go_wp2
    go_ret
    have hr : trimS k xs n = (11, xs, n) := if_neg (by rw [HN.out]; omega)
    exact ⟨Fe.mk hr, Fo.mk HF.out (Fx.refl _ _ _) hr⟩
  · have h1' : decide (k < 0) = false := by simp; omega
    by_cases h2 : (N : Int) < k
    · go_enter Tryz.func63, Tryz.ntmps63
      go_wp2
      go_ret
      have hr : trimS k xs n = (11, xs, n) := if_neg (by rw [HN.out]; omega)
      exact ⟨Fe.mk hr, Fo.mk HF.out (Fx.refl _ _ _) hr⟩
    · have h2' : decide ((N : Int) < k) = false := by simp; omega
      obtain ⟨m, rfl⟩ : ∃ m : Nat, k = m := ⟨k.toNat, by omega⟩
      have hm : m ≤ N := by omega
      have hr : trimS (m : Int) xs n = (0, xs.take m, min n m) := if_pos ⟨by omega, by rw [HN.out]; omega⟩
      have hP := HF.out.put (w' := w) (v' := .slice a m c) (ys := xs.take m) (HF.out.own.take m (by rw [HN.out]; exact hm)) (Fr.refl _ _) (HF.out.byt.take m) (by rw [List.length_take, HN.out]; omega) (fun k hk => .inl (by cases a <;> exact hk))
      have hQ := hP.1.mark (min n m) (by omega)
      have HR := hid hr
      have HP := hid hP
      have HQ := hid hQ
      clear hr hP hQ
      rcases (by omega : (n : Int) < (m : Int) ∨ (m : Int) < (n : Int) ∨ n = m) with hle | hle | hle
      · have g1 : ¬ (m : Int) < (n : Int) := by omega
        have g2 : (n : Int) ≤ (m : Int) := by omega
        have hmin : min n m = n := by omega
        have hmi : min (n : Int) (m : Int) = (n : Int) := by omega
        rw [hmin] at HR HQ
        clear hmin
        go_enter Tryz.func63, Tryz.ntmps63
        go_wp2
        go_ret
        exact ⟨Fe.mk HR.out, Fo.mk (v' := .slice a m c) HQ.out.1 (HP.out.2.trans HQ.out.2) HR.out⟩
      · have g1 : ¬ (n : Int) < (m : Int) := by omega
        have g2 : ¬ (n : Int) ≤ (m : Int) := by omega
        have hmin : min n m = m := by omega
        have hmi : min (n : Int) (m : Int) = (m : Int) := by omega
        rw [hmin] at HR HQ
        clear hmin
        go_enter Tryz.func63, Tryz.ntmps63
        go_wp2
        go_ret
        exact ⟨Fe.mk HR.out, Fo.mk (v' := .slice a m c) HQ.out.1 (HP.out.2.trans HQ.out.2) HR.out⟩
      · subst hle
        rw [Nat.min_self] at HR HQ
        go_enter Tryz.func63, Tryz.ntmps63
        go_wp2
        go_ret
        exact ⟨Fe.mk HR.out, Fo.mk (v' := .slice a n c) HQ.out.1 (HP.out.2.trans HQ.out.2) HR.out⟩

set_option maxHeartbeats 2000000 in
theorem fcrash_any (h : Fi B w b v xs n R) (hx : n ≤ xs.length) (k : Int) :
    Calls Tryz.prog 22 #[.pointer (some ⟨b, 0, none⟩), .int .i64 k] w fun e w' =>
      e = .returned (.tuple #[]) ∧ Fo B b R v w (crashS k xs n) w' := by
  have HF := hid h
  obtain ⟨hn, hl, hR⟩ := h.nums
  obtain ⟨a, c, rfl, hc, c0, c1, c2, f0, f1⟩ := h.cells
  obtain ⟨N, hN⟩ : ∃ N, xs.length = N := ⟨_, rfl⟩
  have HN := hid hN
  rw [hN] at hl hx hc c0 HF ⊢
  clear h hN
  by_cases h1 : k < 0
  · have HJ : Hid (left k xs n = n) := by
      show left k xs n = n
      unfold left; omega
    have h2 : ¬ (N : Int) - n < 0 := by omega
    have mx : max k 0 = 0 := by omega
    have mi : min (0 : Int) ((N : Int) - (n : Int)) = 0 := by omega
    go_enter Tryz.func22, Tryz.ntmps22
    go_wp2
    go_region
    go_wp2
    go_region
    all_goals
      have hP := HF.out.put (w' := w) (v' := .slice a (n) c) (ys := xs.take (n)) (HF.out.own.take (n) (by rw [HN.out]; omega)) (Fr.refl _ _) (HF.out.byt.take (n)) (by rw [List.length_take, HN.out]; omega) (fun k hk => .inl (by cases a <;> exact hk))
      have HP := hid hP
      clear hP
      go_wp2_with fail
      refine (sync_any (HP.out.1.drewN 2)).mono ?_
      rintro e w2 ⟨rfl, hF2, hX2⟩
      have HF2 := hid hF2
      have HX2 := hid hX2
      clear hF2 hX2
      go_wp2
      go_end0
      have hr : crashS k xs n = (0, xs.take (n), n) := by unfold crashS; rw [HJ.out]
      have hl2 : (xs.take (n)).length = n := by rw [List.length_take, HN.out]; omega
      have hF := HF2.out
      rw [hl2] at hF
      exact ⟨rfl, Fo.mk hF ((HP.out.2.drewN 2).trans HX2.out) hr⟩
  · obtain ⟨m, rfl⟩ : ∃ m : Nat, k = m := ⟨k.toNat, by omega⟩
    have h1' : ¬ (m : Int) < 0 := h1
    by_cases h2 : (N : Int) - n < m
    · have HJ : Hid (left (m : Int) xs n = N) := by
        show left (m : Int) xs n = N
        unfold left; rw [HN.out]; omega
      have h3 : (n : Int) + (N - n) = N := by omega
      have mx : max (m : Int) 0 = (m : Int) := by omega
      have mi : min (m : Int) ((N : Int) - (n : Int)) = (N : Int) - (n : Int) := by omega
      have ma : (n : Int) + ((N : Int) - (n : Int)) = (N : Int) := by omega
      go_enter Tryz.func22, Tryz.ntmps22
      go_wp2
      go_region
      go_wp2
      go_region
      all_goals
        have hP := HF.out.put (w' := w) (v' := .slice a (N) c) (ys := xs.take (N)) (HF.out.own.take (N) (by rw [HN.out]; omega)) (Fr.refl _ _) (HF.out.byt.take (N)) (by rw [List.length_take, HN.out]; omega) (fun k hk => .inl (by cases a <;> exact hk))
        have HP := hid hP
        clear hP
        go_wp2_with fail
        refine (sync_any (HP.out.1.drewN 2)).mono ?_
        rintro e w2 ⟨rfl, hF2, hX2⟩
        have HF2 := hid hF2
        have HX2 := hid hX2
        clear hF2 hX2
        go_wp2
        go_end0
        have hr : crashS (m : Int) xs n = (0, xs.take (N), N) := by unfold crashS; rw [HJ.out]
        have hl2 : (xs.take (N)).length = N := by rw [List.length_take, HN.out]; omega
        have hF := HF2.out
        rw [hl2] at hF
        exact ⟨rfl, Fo.mk hF ((HP.out.2.drewN 2).trans HX2.out) hr⟩
    · have HJ : Hid (left (m : Int) xs n = n + m) := by
        show left (m : Int) xs n = n + m
        unfold left; rw [HN.out]; omega
      have h2' : ¬ (N : Int) - n < m := h2
      have h3 : n + m ≤ N := by omega
      have mx : max (m : Int) 0 = (m : Int) := by omega
      have mi : min (m : Int) ((N : Int) - (n : Int)) = (m : Int) := by omega
      go_enter Tryz.func22, Tryz.ntmps22
      go_wp2
      go_region
      go_wp2
      go_region
      all_goals
        have hP := HF.out.put (w' := w) (v' := .slice a (n + m) c) (ys := xs.take (n + m)) (HF.out.own.take (n + m) (by rw [HN.out]; omega)) (Fr.refl _ _) (HF.out.byt.take (n + m)) (by rw [List.length_take, HN.out]; omega) (fun k hk => .inl (by cases a <;> exact hk))
        have HP := hid hP
        clear hP
        go_wp2_with fail
        refine (sync_any (HP.out.1.drewN 2)).mono ?_
        rintro e w2 ⟨rfl, hF2, hX2⟩
        have HF2 := hid hF2
        have HX2 := hid hX2
        clear hF2 hX2
        go_wp2
        go_end0
        have hr : crashS (m : Int) xs n = (0, xs.take (n + m), n + m) := by unfold crashS; rw [HJ.out]
        have hl2 : (xs.take (n + m)).length = n + m := by rw [List.length_take, HN.out]; omega
        have hF := HF2.out
        rw [hl2] at hF
        exact ⟨rfl, Fo.mk hF ((HP.out.2.drewN 2).trans HX2.out) hr⟩

end
end Go.Proofs.YteckjkblngmenaaGreatDoor

/-
  What file.Load and file.New return is proved here, for all rooms and bytes.
-/
namespace Go.Proofs.YteckjkblngmenaaGreatDoor
open Go.RowKit
set_option linter.unusedVariables false
set_option maxRecDepth 100000

/-- A file that is new. -/
theorem Fi.new (w : World) (R : Nat) (hR : R ≤ 1048576) : Fi w.heap.size (w.alloc (.cells #[.slice none 0 0, .int .i64 0, .int .i64 R] 98 (0, 0))) w.heap.size (.slice none 0 0) [] 0 R :=
  ⟨heap_alloc_new w _, Nat.le_refl _, Ow.nil _ _, Byt.nil, Nat.zero_le _, Nat.zero_le _, hR⟩

section
variable {w : World}

set_option maxHeartbeats 2000000 in
theorem load_bad (u : Value) (R : Int) (h : R < 0 ∨ 1048576 < R) : Calls Tryz.prog 37 #[u, .int .i64 R] w fun e w' => e = .returned (.tuple #[.pointer none, .int .i64 11]) ∧ w = w' := by
  by_cases h1 : R < 0
  · go_enter Tryz.func37, Tryz.ntmps37
    go_wp2
    go_ret2
    exact ⟨rfl, rfl⟩
  · have h1' : decide (R < 0) = false := by simp; omega
    have h2 : (1048576 : Int) < R := by omega
    go_enter Tryz.func37, Tryz.ntmps37
    go_wp2
    go_ret2
    exact ⟨rfl, rfl⟩

set_option maxHeartbeats 2000000 in
theorem load_full (u : Value) (ys : List Int) (R : Nat) (hR : R ≤ 1048576) (hu : Bs w u ys) (h : R < ys.length) : Calls Tryz.prog 37 #[u, .int .i64 R] w fun e w' => e = .returned (.tuple #[.pointer none, .int .i64 14]) ∧ Below w.heap.size w w' := by
  have HF := hid (Fi.new w R hR)
  have HU := hid (hu.below (ba w (.cells #[.slice none 0 0, .int .i64 0, .int .i64 R] 98 (0, 0))))
  have hr : repS R ys [] 0 = (14, [], 0) := if_neg (by omega)
  have HR := hid hr
  obtain ⟨ua, uc, rfl⟩ := hu.form
  have h1 : decide ((R : Int) < 0) = false := by simp
  have h2 : decide ((1048576 : Int) < (R : Int)) = false := by simp; omega
  clear hr hu
  go_enter Tryz.func37, Tryz.ntmps37
  go_wp2_with fail
  refine (freplace_any (by simp) HF.out _ ys HU.out).mono ?_
  rintro e w1 ⟨he, hf⟩
  obtain rfl := he.out HR.out
  obtain ⟨v1, hf1, hx1⟩ := hf.out HR.out
  have HX := hid hx1
  clear hf1 hx1 he hf
  go_wp2
  go_ret2
  exact ⟨rfl, (ba w _).trans (HF.out.fr HX.out (by simp))⟩

set_option maxHeartbeats 2000000 in
theorem load_ok (u : Value) (ys : List Int) (R : Nat) (hR : R ≤ 1048576) (hu : Bs w u ys) (h : ys.length ≤ R) : Calls Tryz.prog 37 #[u, .int .i64 R] w fun e w' =>
    e = .returned (.tuple #[.pointer (some ⟨w.heap.size, 0, none⟩), .int .i64 0]) ∧ Below w.heap.size w w' ∧ ∃ v, Fi w.heap.size w' w.heap.size v ys ys.length R := by
  have HF := hid (Fi.new w R hR)
  have HU := hid (hu.below (ba w (.cells #[.slice none 0 0, .int .i64 0, .int .i64 R] 98 (0, 0))))
  have hr : repS R ys [] 0 = (0, ys, ys.length) := if_pos h
  have HR := hid hr
  obtain ⟨ua, uc, rfl⟩ := hu.form
  have h1 : decide ((R : Int) < 0) = false := by simp
  have h2 : decide ((1048576 : Int) < (R : Int)) = false := by simp; omega
  clear hr hu
  go_enter Tryz.func37, Tryz.ntmps37
  go_wp2_with fail
  refine (freplace_any (by simp) HF.out _ ys HU.out).mono ?_
  rintro e w1 ⟨he, hf⟩
  obtain rfl := he.out HR.out
  obtain ⟨v1, hf1, hx1⟩ := hf.out HR.out
  have HX := hid hx1
  have HF1 := hid hf1
  clear hf1 hx1 he hf
  go_wp2
  go_ret2
  exact ⟨rfl, (ba w _).trans (HF.out.fr HX.out (by simp)), _, HF1.out⟩

set_option maxHeartbeats 2000000 in
theorem new_ok (R : Nat) (hR : R ≤ 1048576) : Calls Tryz.prog 7 #[.int .i64 R] w fun e w' =>
    e = .returned (.tuple #[.pointer (some ⟨w.heap.size, 0, none⟩), .int .i64 0]) ∧ Below w.heap.size w w' ∧ ∃ v, Fi w.heap.size w' w.heap.size v [] 0 R := by
  go_enter Tryz.func7, Tryz.ntmps7
  go_wp2_with fail
  refine (load_ok _ [] R hR (Bs.nil w) (Nat.zero_le _)).mono ?_
  rintro e w1 ⟨rfl, hb, v, hf⟩
  have HB := hid hb
  have HF := hid hf
  clear hb hf
  go_wp2
  go_ret2
  exact ⟨rfl, HB.out, v, HF.out⟩
end
end Go.Proofs.YteckjkblngmenaaGreatDoor

/-
  The reference's reads once more, with names for what was read: 'Rel R L o s': what is left to read (the fields L, from the state s, into the op o) comes to R.
-/
namespace Go.Proofs.YteckjkblngmenaaGreatDoor
open Go.RowKit
set_option linter.unusedVariables false
set_option maxRecDepth 100000

def Rel (R : Opn × St) (L : List Nat) (o : Opn) (s : St) : Prop := R = L.foldl (fun p f => rdF Bnd.ref f p) (o, s)
def Rd1 (m : Int) (s : St) (a : Int) (s' : St) : Prop := a = (rn m s).1 ∧ s' = (rn m s).2
def Rd2 (s : St) (a b : Int) (s' : St) : Prop := a = (rn G48 s).1 ∧ b = (rn G48 (rn G48 s).2).1 ∧ s' = (rn G48 (rn G48 s).2).2
def Rd3 (s : St) (a b d : Int) (s' : St) : Prop := a = (rn G48 s).1 ∧ b = (rn G48 (rn G48 s).2).1 ∧ d = (rn G48 (rn G48 (rn G48 s).2).2).1 ∧ s' = (rn G48 (rn G48 (rn G48 s).2).2).2
def Rdt (m : Int) (s : St) (t : ByteArray) (s' : St) : Prop := t = (rt m s).1 ∧ s' = (rt m s).2

theorem gname (c : Nat) (s : St) (w : World) (h : Cx w c s) :
    Calls Tryz.prog 123 #[.pointer (some ⟨c, 0, none⟩)] w fun e w' => ∃ a b s', e = .returned (idv a b) ∧ Cx w' c s' ∧ Fr (fun k => k = c) w w' ∧ Rd2 s a b s' :=
  (xname_r c s w h).mono fun _ _ ⟨h1, h2, h3⟩ => ⟨_, _, _, h1, h2, h3, rfl, rfl, rfl⟩
theorem gchar (c : Nat) (s : St) (w : World) (h : Cx w c s) :
    Calls Tryz.prog 124 #[.pointer (some ⟨c, 0, none⟩)] w fun e w' => ∃ a b d s', e = .returned (chv a b d) ∧ Cx w' c s' ∧ Fr (fun k => k = c) w w' ∧ Rd3 s a b d s' :=
  (xchar_r c s w h).mono fun _ _ ⟨h1, h2, h3⟩ => ⟨_, _, _, _, h1, h2, h3, rfl, rfl, rfl, rfl⟩
theorem gnum (c : Nat) (s : St) (m : Int) (w : World) (h : Cx w c s) :
    Calls Tryz.prog 66 #[.pointer (some ⟨c, 0, none⟩), .int .i64 m] w fun e w' => ∃ a s', e = .returned (.int .i64 a) ∧ Cx w' c s' ∧ Fr (fun k => k = c) w w' ∧ Rd1 m s a s' :=
  (xnum_s c s m w h).mono fun _ _ ⟨h1, h2, h3⟩ => ⟨_, _, h1, h2, Fr.grown h3, rfl, rfl⟩
theorem gtext (c : Nat) (s : St) (m : Int) (w : World) (h : Cx w c s) :
    Calls Tryz.prog 100 #[.pointer (some ⟨c, 0, none⟩), .int .i64 m] w fun e w' => ∃ a s', e = .returned (.string a) ∧ Cx w' c s' ∧ Fr (fun k => k = c) w w' ∧ Rdt m s a s' :=
  (xtext_s c s m w h).mono fun _ _ ⟨h1, h2, h3⟩ => ⟨_, _, h1, h2, Fr.grown h3, rfl, rfl⟩

section
variable {R : Opn × St} {L : List Nat} {o : Opn} {s s' : St} {a b d : Int} {t : ByteArray}
theorem rel_block (h : Rel R (0 :: L) o s) (q : Rd2 s a b s') : Rel R L { o with br := a, bm := b } s' := by obtain ⟨rfl, rfl, rfl⟩ := q; exact h
theorem rel_parent (h : Rel R (1 :: L) o s) (q : Rd2 s a b s') : Rel R L { o with pr := a, pm := b } s' := by obtain ⟨rfl, rfl, rfl⟩ := q; exact h
theorem rel_key (h : Rel R (2 :: L) o s) (q : Rdt G48 s t s') : Rel R L { o with key := t } s' := by obtain ⟨rfl, rfl⟩ := q; exact h
theorem rel_seg (h : Rel R (3 :: L) o s) (q : Rd2 s a b s') : Rel R L { o with sr := a, sm := b } s' := by obtain ⟨rfl, rfl, rfl⟩ := q; exact h
theorem rel_left (h : Rel R (4 :: L) o s) (q : Rd3 s a b d s') : Rel R L { o with lr := a, lm := b, li := d } s' := by obtain ⟨rfl, rfl, rfl, rfl⟩ := q; exact h
theorem rel_right (h : Rel R (5 :: L) o s) (q : Rd3 s a b d s') : Rel R L { o with gr := a, gm := b, gi := d } s' := by obtain ⟨rfl, rfl, rfl, rfl⟩ := q; exact h
theorem rel_text (h : Rel R (6 :: L) o s) (q : Rdt G48 s t s') : Rel R L { o with text := t } s' := by obtain ⟨rfl, rfl⟩ := q; exact h
theorem rel_flag (h : Rel R (8 :: L) o s) (q : Rd1 1 s a s') : Rel R L { o with flag := a == 1 } s' := by obtain ⟨rfl, rfl⟩ := q; exact h
end

/-- What is left to read, the kind, and that there are no cuts. -/
structure Inv (R : Opn × St) (L : List Nat) (K : Int) (o : Opn) (s : St) : Prop where
  rel : Rel R L o s
  kind : o.k = K
  cuts : o.cuts = []
section
variable {ops : Array Oper} {rest : List Oper} {p : Oper} {ac : Act} {W : World} {Q : Exit → Act → World → Prop} {x y : Operand} {bl : Nat} {o : Opn} {v : Value} {R : Opn × St} {L : List Nat} {K : Int} {s s' : St}
theorem wpList_ld_kk (ho : p.op = .load 3 x) (hx : ac.eval x = .pointer (some ⟨bl, 0, none⟩)) (h : Ob W bl o v) (hi : Inv R L K o s) (hw : Region.wanted p (yielded ops ac.tmps) = true) (hk : wpList Tryz.prog ops Q rest (ac.put p.dst (.int .i64 K)) W) : wpList Tryz.prog ops Q (p :: rest) ac W :=
  wpList_ld_kind hw ho hx h (by rw [hi.kind]; exact hk)
theorem wpList_rd_block {a b : Int} (ho : p.op = .store 72 x y) (hx : ac.eval x = .pointer (some ⟨bl, 4, none⟩)) (hy : ac.eval y = idv a b) (h : Ob W bl o v) (hi : Inv R (0 :: L) K o s) (q : Rd2 s a b s') (hw : Region.wanted p (yielded ops ac.tmps) = true)
    (hk : ∀ W' o', Ob W' bl o' v → Fr (fun k => k = bl) W W' → Inv R L K o' s' → wpList Tryz.prog ops Q rest (ac.put p.dst undef) W') : wpList Tryz.prog ops Q (p :: rest) ac W :=
  wpList_st_block hw ho hx hy h fun W' h1 h2 => hk W' _ h1 h2 ⟨rel_block hi.rel q, hi.kind, hi.cuts⟩
theorem wpList_rd_parent {a b : Int} (ho : p.op = .store 72 x y) (hx : ac.eval x = .pointer (some ⟨bl, 6, none⟩)) (hy : ac.eval y = idv a b) (h : Ob W bl o v) (hi : Inv R (1 :: L) K o s) (q : Rd2 s a b s') (hw : Region.wanted p (yielded ops ac.tmps) = true)
    (hk : ∀ W' o', Ob W' bl o' v → Fr (fun k => k = bl) W W' → Inv R L K o' s' → wpList Tryz.prog ops Q rest (ac.put p.dst undef) W') : wpList Tryz.prog ops Q (p :: rest) ac W :=
  wpList_st_parent hw ho hx hy h fun W' h1 h2 => hk W' _ h1 h2 ⟨rel_parent hi.rel q, hi.kind, hi.cuts⟩
theorem wpList_rd_key {t : ByteArray} (ho : p.op = .store 9 x y) (hx : ac.eval x = .pointer (some ⟨bl, 8, none⟩)) (hy : ac.eval y = .string t) (h : Ob W bl o v) (hi : Inv R (2 :: L) K o s) (q : Rdt G48 s t s') (hw : Region.wanted p (yielded ops ac.tmps) = true)
    (hk : ∀ W' o', Ob W' bl o' v → Fr (fun k => k = bl) W W' → Inv R L K o' s' → wpList Tryz.prog ops Q rest (ac.put p.dst undef) W') : wpList Tryz.prog ops Q (p :: rest) ac W :=
  wpList_st_key hw ho hx hy h fun W' h1 h2 => hk W' _ h1 h2 ⟨rel_key hi.rel q, hi.kind, hi.cuts⟩
theorem wpList_rd_seg {a b : Int} (ho : p.op = .store 72 x y) (hx : ac.eval x = .pointer (some ⟨bl, 9, none⟩)) (hy : ac.eval y = idv a b) (h : Ob W bl o v) (hi : Inv R (3 :: L) K o s) (q : Rd2 s a b s') (hw : Region.wanted p (yielded ops ac.tmps) = true)
    (hk : ∀ W' o', Ob W' bl o' v → Fr (fun k => k = bl) W W' → Inv R L K o' s' → wpList Tryz.prog ops Q rest (ac.put p.dst undef) W') : wpList Tryz.prog ops Q (p :: rest) ac W :=
  wpList_st_seg hw ho hx hy h fun W' h1 h2 => hk W' _ h1 h2 ⟨rel_seg hi.rel q, hi.kind, hi.cuts⟩
theorem wpList_rd_left {a b d : Int} (ho : p.op = .store 74 x y) (hx : ac.eval x = .pointer (some ⟨bl, 11, none⟩)) (hy : ac.eval y = chv a b d) (h : Ob W bl o v) (hi : Inv R (4 :: L) K o s) (q : Rd3 s a b d s') (hw : Region.wanted p (yielded ops ac.tmps) = true)
    (hk : ∀ W' o', Ob W' bl o' v → Fr (fun k => k = bl) W W' → Inv R L K o' s' → wpList Tryz.prog ops Q rest (ac.put p.dst undef) W') : wpList Tryz.prog ops Q (p :: rest) ac W :=
  wpList_st_left hw ho hx hy h fun W' h1 h2 => hk W' _ h1 h2 ⟨rel_left hi.rel q, hi.kind, hi.cuts⟩
theorem wpList_rd_right {a b d : Int} (ho : p.op = .store 74 x y) (hx : ac.eval x = .pointer (some ⟨bl, 14, none⟩)) (hy : ac.eval y = chv a b d) (h : Ob W bl o v) (hi : Inv R (5 :: L) K o s) (q : Rd3 s a b d s') (hw : Region.wanted p (yielded ops ac.tmps) = true)
    (hk : ∀ W' o', Ob W' bl o' v → Fr (fun k => k = bl) W W' → Inv R L K o' s' → wpList Tryz.prog ops Q rest (ac.put p.dst undef) W') : wpList Tryz.prog ops Q (p :: rest) ac W :=
  wpList_st_right hw ho hx hy h fun W' h1 h2 => hk W' _ h1 h2 ⟨rel_right hi.rel q, hi.kind, hi.cuts⟩
theorem wpList_rd_text {t : ByteArray} (ho : p.op = .store 9 x y) (hx : ac.eval x = .pointer (some ⟨bl, 17, none⟩)) (hy : ac.eval y = .string t) (h : Ob W bl o v) (hi : Inv R (6 :: L) K o s) (q : Rdt G48 s t s') (hw : Region.wanted p (yielded ops ac.tmps) = true)
    (hk : ∀ W' o', Ob W' bl o' v → Fr (fun k => k = bl) W W' → Inv R L K o' s' → wpList Tryz.prog ops Q rest (ac.put p.dst undef) W') : wpList Tryz.prog ops Q (p :: rest) ac W :=
  wpList_st_text hw ho hx hy h fun W' h1 h2 => hk W' _ h1 h2 ⟨rel_text hi.rel q, hi.kind, hi.cuts⟩
theorem wpList_rd_flag {a : Int} (ho : p.op = .store 4 x y) (hx : ac.eval x = .pointer (some ⟨bl, 19, none⟩)) (hy : ac.eval y = .bool (a == 1)) (h : Ob W bl o v) (hi : Inv R (8 :: L) K o s) (q : Rd1 1 s a s') (hw : Region.wanted p (yielded ops ac.tmps) = true)
    (hk : ∀ W' o', Ob W' bl o' v → Fr (fun k => k = bl) W W' → Inv R L K o' s' → wpList Tryz.prog ops Q rest (ac.put p.dst undef) W') : wpList Tryz.prog ops Q (p :: rest) ac W :=
  wpList_st_flag hw ho hx hy h fun W' h1 h2 => hk W' _ h1 h2 ⟨rel_flag hi.rel q, hi.kind, hi.cuts⟩
end

/-- A row of the call's own is none of the other blocks. -/
theorem own_far {w : World} {B e sz n b : Nat} {v : Value} {xs : List Value} {cells : Array Value} {T : TypeId} {f : Nat × Nat} (h : w.ownsRow B e sz v n xs) (hk : w.heap[b]? = some (.cells cells T f)) (hT : T ≠ e) : v.ownBlock ≠ some b := by
  intro eb
  rcases h.2 with ⟨rfl, _⟩ | ⟨g, cap, cur, rfl, _, hg, _⟩
  · cases eb
  · simp [Value.ownBlock] at eb
    subst eb
    rw [hk] at hg
    simp at hg
    exact hT hg.2.1
theorem own_fr {S : Nat → Prop} {w w' : World} {B e sz n : Nat} {v : Value} {xs : List Value} (h : w.ownsRow B e sz v n xs) (hf : Fr S w w') (hs : ∀ k, v.ownBlock = some k → ¬ S k) : w'.ownsRow B e sz v n xs := by
  refine ⟨h.1, ?_⟩
  rcases h.2 with h0 | ⟨g, cap, cur, rfl, hg, hh, r⟩
  · exact .inl h0
  · exact .inr ⟨g, cap, cur, rfl, hg, by rw [hf.block g (Array.getElem?_eq_some_iff.1 hh).1 (hs g rfl)]; exact hh, r⟩

/-- A cut in a block of its own. -/
abbrev cutl (a b f t : Int) : Array Value := #[.int .i64 a, .int .i64 b, .int .i64 f, .int .i64 t]
def Cb (w : World) (x : Nat) (a b f t : Int) : Prop := w.heap[x]? = some (.cells (cutl a b f t) 113 (0, 0))
theorem Cb.fr {S : Nat → Prop} {w w' : World} {x : Nat} {a b f t : Int} (h : Cb w x a b f t) (hf : Fr S w w') (hs : ¬ S x) : Cb w' x a b f t := hf.rows h hs
theorem Cb.no_byte {w : World} {x : Nat} {a b f t : Int} (h : Cb w x a b f t) : ∀ k, k = x → ∀ j y, w.cell? ⟨k, j, none⟩ ≠ some (.int .u8 y) := by
  intro k hk j y hc
  subst hk
  rw [cell_of_row w k j _ _ _ h] at hc
  have hj : j < 4 := (Array.getElem?_eq_some_iff.1 hc).1
  have hcases : j = 0 ∨ j = 1 ∨ j = 2 ∨ j = 3 := by omega
  rcases hcases with rfl | rfl | rfl | rfl <;> simp at hc
section
variable {ops : Array Oper} {rest : List Oper} {p : Oper} {ac : Act} {W : World} {Q : Exit → Act → World → Prop} {x y : Operand} {xb : Nat} {a b f t s : Int}
theorem wpList_cb_f (ho : p.op = .store 3 x y) (hx : ac.eval x = .pointer (some ⟨xb, 2, none⟩)) (hy : ac.eval y = .int .i64 s) (h : Cb W xb a b f t) (hw : Region.wanted p (yielded ops ac.tmps) = true)
    (hk : ∀ W', Cb W' xb a b s t → Fr (fun k => k = xb) W W' → wpList Tryz.prog ops Q rest (ac.put p.dst undef) W') : wpList Tryz.prog ops Q (p :: rest) ac W :=
  wpList_nil _ hw (run_st_int ho hx hy h (show 2 < 4 by decide)) (hk _ (set_row (i := 2) h _) (Fr.of_set W xb 2 _))
theorem wpList_cb_t (ho : p.op = .store 3 x y) (hx : ac.eval x = .pointer (some ⟨xb, 3, none⟩)) (hy : ac.eval y = .int .i64 s) (h : Cb W xb a b f t) (hw : Region.wanted p (yielded ops ac.tmps) = true)
    (hk : ∀ W', Cb W' xb a b f s → Fr (fun k => k = xb) W W' → wpList Tryz.prog ops Q rest (ac.put p.dst undef) W') : wpList Tryz.prog ops Q (p :: rest) ac W :=
  wpList_nil _ hw (run_st_int ho hx hy h (show 3 < 4 by decide)) (hk _ (set_row (i := 3) h _) (Fr.of_set W xb 3 _))
theorem run_ld_cut (ho : p.op = .load 113 x) (hx : ac.eval x = .pointer (some ⟨xb, 0, none⟩)) (h : Cb W xb a b f t) : (execOp ac.eval p).run Tryz.prog W = .ok (.value (.agg (cutl a b f t))) W := by
  have h0 : W.cell? ⟨xb, 0, none⟩ = some (.int .i64 a) := cell_of_row W xb 0 _ _ _ h
  have h1 : W.cell? ⟨xb, 1, none⟩ = some (.int .i64 b) := cell_of_row W xb 1 _ _ _ h
  have h2 : W.cell? ⟨xb, 2, none⟩ = some (.int .i64 f) := cell_of_row W xb 2 _ _ _ h
  have h3 : W.cell? ⟨xb, 3, none⟩ = some (.int .i64 t) := cell_of_row W xb 3 _ _ _ h
  unfold execOp
  simp only [ho, hx]
  simp [go_sem, h0, h1, h2, h3]
theorem wpList_ld_cut (ho : p.op = .load 113 x) (hx : ac.eval x = .pointer (some ⟨xb, 0, none⟩)) (h : Cb W xb a b f t) (hw : Region.wanted p (yielded ops ac.tmps) = true) (hk : wpList Tryz.prog ops Q rest (ac.put p.dst (.agg (cutl a b f t))) W) : wpList Tryz.prog ops Q (p :: rest) ac W :=
  wpList_val _ hw (run_ld_cut ho hx h) hk
theorem run_cut1 (a b f t : Int) (w : World) : (Instr.buildSlice 75 1 #[(0, .agg (cutl a b f t))]).run Tryz.prog w = .ok (.slice (some ⟨w.heap.size, 0, none⟩) 1 1) (w.alloc (.cells (cutl a b f t) 113)) := by kernel_rfl
theorem wpList_cut1 (ho : p.op = .buildSlice 75 1 #[(0, x)]) (hx : ac.eval x = .agg (cutl a b f t)) (hw : Region.wanted p (yielded ops ac.tmps) = true)
    (hk : ∀ W' u, Sl 4 W' u 1 (cutc ⟨a, b, f, t⟩) → Below W.heap.size W W' → wpList Tryz.prog ops Q rest (ac.put p.dst u) W') : wpList Tryz.prog ops Q (p :: rest) ac W := by
  refine BigFrame.wpList_want hw fun K hK => ?_
  unfold Oper.wp execOp
  have e : (Array.map (fun ((i, x) : Nat × Operand) => (i, ac.eval x)) #[(0, x)]) = #[(0, .agg (cutl a b f t))] := by simp [hx]
  simp only [ho, e, Sem.run_bind, run_cut1, Result.andThen_ok]
  exact hK _ _ (hk _ _ (Sl.lit W 113 (cutl a b f t) 1 (by decide) rfl) (ba W _))
end
theorem rcuts_step (B : Bnd) (j : Nat) (s : St) : (rcuts B (j + 1) s).1 = (rcuts B j s).1 ++ [(rcut B (rcuts B j s).2).1] ∧ (rcuts B (j + 1) s).2 = (rcut B (rcuts B j s).2).2 := ⟨rfl, rfl⟩

end Go.Proofs.YteckjkblngmenaaGreatDoor

/-
  An append to a row of the call's own in which there is no byte: there is none behind it either (so a cursor's bytes lie elsewhere).
-/
namespace Go.Proofs.YteckjkblngmenaaGreatDoor
open Go.RowKit
set_option linter.unusedVariables false
set_option maxRecDepth 100000

def NoB (u : Value) : Prop := ∀ x, u ≠ .int .u8 x
/-- No byte lies in the row's block. -/
def Clean (w : World) (v : Value) : Prop := ∀ g, v.ownBlock = some g → ∀ j x, w.cell? ⟨g, j, none⟩ ≠ some (.int .u8 x)
theorem Clean.nil (w : World) : Clean w (.slice none 0 0) := fun g h => by cases h
theorem Clean.kept {w w' : World} {v : Value} (h : Clean w v) (hb : ∀ k, v.ownBlock = some k → w'.heap[k]? = w.heap[k]?) : Clean w' v := fun g hg j x hc => by
  rw [World.cell?_of_block (w := w) (hb g hg)] at hc
  exact h g hg j x hc
theorem clean_row {w : World} {g n c : Nat} {cells : Array Value} {e : TypeId} {f : Nat × Nat} (h : w.heap[g]? = some (.cells cells e f)) (hc : ∀ u ∈ cells.toList, NoB u) : Clean w (.slice (some ⟨g, 0, none⟩) n c) := by
  intro g' hg j x hx
  simp [Value.ownBlock] at hg
  subst hg
  rw [cell_of_row w g j _ _ _ h] at hx
  have hm : (Value.int .u8 x) ∈ cells.toList := by
    have := Array.mem_of_getElem? hx
    simpa using this
  exact hc _ hm x rfl
theorem zero_nob {z : Array Value} {n : Nat} (hz : ∀ u ∈ z.toList, NoB u) (h0 : 0 < z.size) : ∀ u ∈ (Builtin.zeroCells z n).toList, NoB u := by
  intro u hu
  simp only [Builtin.zeroCells, Array.toList_map, List.mem_map] at hu
  obtain ⟨i, _, rfl⟩ := hu
  have hlt : i % z.size < z.size := Nat.mod_lt _ h0
  rw [getElem!_pos z _ hlt]
  exact hz _ (by simp)

theorem append_clean (w : World) (t ty e : TypeId) (i : TypeInfo) (z : Value) (size bytes base : Nat) (ht : Tryz.prog.underlying t = some (.slice e)) (hi : Tryz.prog.info? e = some i) (hz : i.zero = some z)
    (hsize : i.size = size) (hby : i.bytes = bytes) (hzs : z.cells.size = size) (hsz : 0 < size) (v : Value) (n : Nat) (xs : List Value) (hown : w.ownsRow base e size v n xs)
    (a : Addr) (m c : Nat) (news : List Value) (hl : news.length = m * size) (hnews : ∀ j u, news[j]? = some u → w.cell? (a.add j) = some u) (h1 : ∀ u ∈ news, u.oneCell' = true) (hm : 0 < m)
    (h63 : n + m ≤ maxLen) (hbytes : (n + m) * bytes ≤ 140737488355328) (hc : Clean w v) (hzn : ∀ u ∈ z.cells.toList, NoB u) (hnn : ∀ u ∈ news, NoB u)
    (v' : Value) (w' : World) (hr : (Builtin.append_ #[t, t] ty #[v, .slice (some a) m c]).run Tryz.prog w = .ok v' w') : Clean w' v' := by
  subst hsize
  subst hby
  have hsmall : n + m ≤ 9223372036854775807 := by simp only [maxLen] at h63; omega
  have hz0 : 0 < z.cells.size := by omega
  rcases hown.2 with ⟨rfl, rfl⟩ | ⟨g, cap, cur, rfl, hbg, hg, hnc, hcm, hcs, htake⟩
  · have hr2 := run_append_nil (P := Tryz.prog) w t ty e i z ht hi hz a m c news hl hnews hm (by omega) (by have hb := hbytes; simp only [Nat.zero_add] at hb; omega)
    rw [hr] at hr2
    simp only [Result.ok.injEq] at hr2
    obtain ⟨rfl, rfl⟩ := hr2
    refine clean_row (w := w.drew.alloc _) (heap_alloc_new w.drew _) fun u hu => ?_
    rw [Array.toList_append] at hu
    rcases List.mem_append.1 hu with hu | hu
    · exact hnn u (by simpa using hu)
    · exact zero_nob hzn hz0 u hu
  · have hcur : ∀ u ∈ cur.toList, NoB u := by
      intro u hu x e
      obtain ⟨j, hj, he⟩ := List.getElem_of_mem hu
      refine hc g rfl j x ?_
      rw [cell_of_row w g j _ _ _ hg, ← e, ← he]
      simp at hj ⊢
    have hxs : ∀ u ∈ xs, NoB u := fun u hu => hcur u (List.mem_of_mem_take (by rw [htake]; exact hu))
    by_cases hroom : n + m ≤ cap
    · have hfit : n * i.size + news.length ≤ cur.size := by rw [hl, hcs, ← Nat.add_mul]; exact Nat.mul_le_mul_right _ hroom
      have hr2 := run_append_room (P := Tryz.prog) w t ty e i ht hi g n cap cur hg a m c news hl hnews h1 hroom hfit
      rw [hr] at hr2
      simp only [Result.ok.injEq] at hr2
      obtain ⟨rfl, rfl⟩ := hr2
      refine clean_row (setRow_heap w g cur _ e _ hg) fun u hu => ?_
      simp only [List.mem_append] at hu
      rcases hu with (hu | hu) | hu
      · exact hcur u (List.mem_of_mem_take hu)
      · exact hnn u hu
      · exact hcur u (List.mem_of_mem_drop hu)
    · have holds : ∀ j u, xs[j]? = some u → w.cell? ((⟨g, 0, none⟩ : Addr).add j) = some u := hown.cells (g := g) rfl
      have hr2 := run_append_grow (P := Tryz.prog) w t ty e i z ht hi hz ⟨g, 0, none⟩ n cap xs hown.1 holds a m c news hl hnews (by omega) (by omega) (growslice_fits (by omega) hbytes)
      rw [hr] at hr2
      simp only [Result.ok.injEq] at hr2
      obtain ⟨rfl, rfl⟩ := hr2
      refine clean_row (w := w.drew.alloc _) (heap_alloc_new w.drew _) fun u hu => ?_
      rw [Array.toList_append, Array.toList_append] at hu
      rcases List.mem_append.1 hu with hu | hu
      · rcases List.mem_append.1 hu with hu | hu
        · exact hxs u (by simpa using hu)
        · exact hnn u (by simpa using hu)
      · exact zero_nob hzn hz0 u hu

/-- The law: one element or more, appended. -/
theorem wpList_append_cl {w : World} {ops : Array Oper} {rest : List Oper} {o : Oper} {a : Act} {Q : Exit → Act → World → Prop} (t e : TypeId) (sz bytes : Nat) (z : Value) (ht : Tryz.prog.underlying t = some (.slice e))
    (hinfo : (Tryz.prog.info? e).map (fun i => (i.zero, i.size, i.bytes)) = some (some z, sz, bytes)) (hzs : z.cells.size = sz) (hsz : 0 < sz) (hgd : o.guard = none) (s x : Operand)
    (ho : o.op = .call { callee := .builtin .append, args := #[s, x], argTypes := #[t, t] })
    (base : Nat) (v : Value) (n : Nat) (cells : List Value) (hs : a.eval s = v) (hown : w.ownsRow base e sz v n cells) (u : Value) (m : Nat) (news : List Value) (hx : a.eval x = u) (hu : Sl sz w u m news) (h1c : ∀ u ∈ news, u.oneCell' = true)
    (hm : 0 < m) (hb : (n + m) * bytes ≤ 140737488355328) (hl : n + m ≤ maxLen) (hbase : base ≤ w.heap.size) (hc : Clean w v) (hzn : ∀ u ∈ z.cells.toList, NoB u) (hnn : ∀ u ∈ news, NoB u)
    (h : ∀ v' w', w'.ownsRow base e sz v' (n + m) (cells ++ news) → w.grownBy w' v.ownBlock → (v'.ownBlock = v.ownBlock ∨ v'.ownBlock = some w.heap.size) → Clean w' v' → wpList Tryz.prog ops Q rest (a.put o.dst v') w') :
    wpList Tryz.prog ops Q (o :: rest) a w := by
  obtain ⟨i0, hi, hz0, hz1, hz2⟩ := info_parts hinfo
  obtain ⟨A, c, rfl, _, _⟩ := hu.form
  cases A with
  | none =>
    obtain ⟨_, rfl, _⟩ := hu.none_nil
    exact absurd hm (Nat.lt_irrefl _)
  | some A =>
    refine wpList_plain hgd fun K hK => ?_
    obtain ⟨v', w', hr, h2, h3, _, h5⟩ := run_append_own_at (P := Tryz.prog) w base t o.type e i0 z sz bytes ht hi hz0 hz1 hz2 hzs hsz v n cells hown A m c news hu.1 hu.cells_at h1c hl hb hbase
    have hcl := append_clean w t o.type e i0 z sz bytes base ht hi hz0 hz1 hz2 hzs hsz v n cells hown A m c news hu.1 hu.cells_at h1c hm hl hb hc hzn hnn v' w' hr
    unfold Oper.wp execOp
    simp only [ho, resolve, invoke, builtin, Sem.run_bind, Sem.run_pure, Result.andThen_ok, List.map_toArray, List.map_cons, List.map_nil, hs, hx, hr]
    exact hK _ _ (h v' w' h2 h3 h5 hcl)

end Go.Proofs.YteckjkblngmenaaGreatDoor

/-
  A row of ops that a call makes ('Rw'): what an append of one op to it comes to.
-/
namespace Go.Proofs.YteckjkblngmenaaGreatDoor
open Go.RowKit
set_option linter.unusedVariables false
set_option maxRecDepth 100000

theorem info_op : (Tryz.prog.info? 77).map (fun i => (i.zero, i.size, i.bytes)) = some (some (opv Opn.zero (.slice none 0 0)), 20, 192) := by kernel_rfl

theorem Cs.keeps {w w' : World} {v : Value} {l : List Ct} (h : Cs w v l) (hk : Keeps w w') : Cs w' v l := by
  obtain ⟨h0, a, c, h1, h2, h3, h4, h5⟩ := h
  refine ⟨h0, a, c, h1, h2, h3, h4, fun j u hu => ?_⟩
  obtain ⟨b, off, e1, e2⟩ := h5 j u hu
  have hm : u ∈ l.flatMap cutc := List.mem_of_getElem? hu
  obtain ⟨q, _, hq⟩ := List.mem_flatMap.1 hm
  simp at hq
  rcases hq with rfl | rfl | rfl | rfl <;> exact ⟨b, off, e1, hk _ _ _ e2⟩

theorem Cs.blk {w : World} {v : Value} {l : List Ct} (h : Cs w v l) (hl : l ≠ []) {k : Nat} (hk : v.ownBlock = some k) : k < w.heap.size := by
  obtain ⟨b, off, c, rfl, _, _, hb, _⟩ := Sl.inv h (List.length_pos_iff.2 hl) (by decide)
  simp [Value.ownBlock] at hk
  omega
theorem Cs.none {w w' : World} {v : Value} (h : Cs w v []) : Cs w' v [] := by
  obtain ⟨h0, a, c, h1, h2, h3, h4, h5⟩ := h
  exact ⟨h0, a, c, h1, h2, h3, h4, fun j u hu => by simp at hu⟩
/-- The cuts lie elsewhere, if there are any. -/
def Aw (v : Value) (p : Opn × Value) : Prop := p.1.cuts = [] ∨ ∀ k, v.ownBlock = some k → p.2.ownBlock ≠ some k
theorem Aw.kept {w w' : World} {v : Value} {p : Opn × Value} (h : Aw v p) (hc : Cs w p.2 p.1.cuts) (hf : Fr (fun k => v.ownBlock = some k) w w') : Cs w' p.2 p.1.cuts := by
  rcases h with h | h
  · rw [h] at hc ⊢; exact hc.none
  · exact Sl.kept hc (fun k hk hlt => hf.block k hlt (fun e => h k e hk))
theorem Aw.moved {w : World} {v v' : Value} {p : Opn × Value} (h : Aw v p) (hc : Cs w p.2 p.1.cuts) (hv : v'.ownBlock = v.ownBlock ∨ v'.ownBlock = some w.heap.size) : Aw v' p := by
  by_cases he : p.1.cuts = []
  · exact .inl he
  · refine .inr (fun k hk e => ?_)
    rcases hv with hv | hv
    · exact (h.resolve_left he) k (by rw [← hv]; exact hk) e
    · rw [hv] at hk
      simp at hk
      have := hc.blk he e
      omega

/-- A row of ops of the call's own, in which there is no byte; the cuts of each op lie elsewhere. -/
def Rw (B : Nat) (w : World) (v : Value) (l : List (Opn × Value)) : Prop :=
  w.ownsRow B 77 20 v l.length (l.flatMap opc) ∧ Clean w v ∧ ∀ p ∈ l, Cs w p.2 p.1.cuts ∧ Aw v p
theorem Rw.nil (B : Nat) (w : World) : Rw B w (.slice none 0 0) [] := ⟨World.ownsRow_nil _ _ _ _, Clean.nil w, fun p hp => by cases hp⟩
theorem Rw.made {B : Nat} {w : World} (hB : B ≤ w.heap.size) : Rw B (w.alloc (.cells #[] 77)) (.slice (some ⟨w.heap.size, 0, none⟩) 0 0) [] := by
  refine ⟨World.ownsRow_made w #[] 0 hB (Nat.zero_le _) rfl, clean_row (heap_alloc_new w _) (fun u hu => by simp at hu), fun p hp => by cases hp⟩
theorem Rw.form {B : Nat} {w : World} {v : Value} {l : List (Opn × Value)} (h : Rw B w v l) : ∃ a c, v = .slice a l.length c := by
  obtain ⟨a, c, e, _⟩ := (Sl.of_own h.1).form
  exact ⟨a, c, e⟩
theorem Rw.os {B : Nat} {w : World} {v : Value} {l : List (Opn × Value)} (h : Rw B w v l) : Os w v l := ⟨Sl.of_own h.1, fun p hp => (h.2.2 p hp).1⟩
theorem Rw.below {B : Nat} {w w' : World} {v : Value} {l : List (Opn × Value)} (h : Rw B w v l) (hb : Below w.heap.size w w') : Rw B w' v l :=
  ⟨own_fr h.1 (Fr.of_below hb : Fr (fun _ => False) _ _) (fun _ _ h => h), h.2.1.kept (fun k hk => hb.block k (h.1.lt k hk).2), fun p hp => ⟨(h.2.2 p hp).1.below hb, (h.2.2 p hp).2⟩⟩
/-- What is done to a cursor's block leaves it. -/
theorem Rw.cur {B T c : Nat} {w w' : World} {v : Value} {l : List (Opn × Value)} {xs : List Int} {lost : Bool} (h : Rw B w v l) (hc : Cur T w c xs lost) (hT : T ≠ 77) (hg : w.grownBy w' (some c)) : Rw B w' v l := by
  have hk := hc.keeps hg
  obtain ⟨u, hu, _⟩ := hc
  have hne : v.ownBlock ≠ some c := own_far h.1 hu hT
  have hf : Fr (fun k => k = c) w w' := Fr.of_grown hg (fun k e => by simp at e; exact e.symm)
  exact ⟨own_fr h.1 hf (fun k hk e => hne (by rw [← e]; exact hk)), h.2.1.kept (fun k hk => hf.block k (h.1.lt k hk).2 (fun e => hne (by rw [← e]; exact hk))), fun p hp => ⟨(h.2.2 p hp).1.keeps hk, (h.2.2 p hp).2⟩⟩

theorem opc_one {p : Opn × Value} {w : World} {l : List Ct} (h : Cs w p.2 l) : (∀ u ∈ opc p, u.oneCell' = true) ∧ ∀ u ∈ opc p, NoB u := by
  obtain ⟨o, v⟩ := p
  obtain ⟨a, c, rfl, _⟩ := h.form
  constructor
  · intro u hu
    simp [opl] at hu
    rcases hu with rfl | rfl | rfl | rfl | rfl | rfl | rfl | rfl | rfl | rfl | rfl | rfl | rfl | rfl | rfl | rfl | rfl | rfl | rfl | rfl <;> rfl
  · intro u hu x e
    subst e
    simp [opl] at hu

theorem wpList_append_op {w : World} {ops : Array Oper} {rest : List Oper} {o : Oper} {a : Act} {Q : Exit → Act → World → Prop} (hgd : o.guard = none) (s x : Operand)
    (ho : o.op = .call { callee := .builtin .append, args := #[s, x], argTypes := #[38, 38] })
    (B : Nat) (v : Value) (l : List (Opn × Value)) (hs : a.eval s = v) (hR : Rw B w v l) (u : Value) (p : Opn × Value) (hx : a.eval x = u) (hu : Os w u [p]) (hp : Aw v p) (hlen : l.length ≤ 1048576) (hB : B ≤ w.heap.size)
    (h : ∀ v' w', Rw B w' v' (l ++ [p]) → Fr (fun k => v.ownBlock = some k) w w' → (v'.ownBlock = v.ownBlock ∨ v'.ownBlock = some w.heap.size) → wpList Tryz.prog ops Q rest (a.put o.dst v') w') :
    wpList Tryz.prog ops Q (o :: rest) a w := by
  have hcp := hu.2 p (List.mem_singleton.2 rfl)
  obtain ⟨k1, k2⟩ := opc_one hcp
  refine wpList_append_cl 38 77 20 192 _ Tryz.underlying38 info_op rfl (by decide) hgd s x ho B v l.length (l.flatMap opc) hs hR.1 u 1 (opc p) hx (by have := hu.1; simpa using this) k1 (by decide) (by omega) (by unfold maxLen; omega) hB hR.2.1
    (fun z hz x e => by subst e; simp [Value.cells, opl] at hz) k2 ?_
  intro v' w' h1 h2 h3 h4
  have hf : Fr (fun k => v.ownBlock = some k) w w' := Fr.of_grown h2 (fun k e => e)
  refine h v' w' ⟨?_, h4, ?_⟩ hf h3
  · rw [List.length_append, List.flatMap_append]; simpa using h1
  · intro q hq
    have hqq : Cs w q.2 q.1.cuts ∧ Aw v q := by
      rcases List.mem_append.1 hq with hq | hq
      · exact hR.2.2 q hq
      · rw [List.mem_singleton.1 hq]; exact ⟨hcp, hp⟩
    exact ⟨hqq.2.kept hqq.1 hf, hqq.2.moved hqq.1 h3⟩

end Go.Proofs.YteckjkblngmenaaGreatDoor
