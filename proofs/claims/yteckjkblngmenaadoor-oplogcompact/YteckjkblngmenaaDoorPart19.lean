/-
  Parts of the proof, one behind the other; what each proves stands at its head.
-/
import Derived.Test.YteckjkblngmenaaDoorPart18
import Derived.Test.YteckjkblngmenaaDoorPart8
import Derived.Deep.CutRange
import Derived.Deep.AppendLies
import Derived.Deep.QuietTactic
import Derived.BigQuiet

/-
  The law OplogBits returns true for all lists of lists of ops, and every number: a log of which one bit behind a frame's first four bytes is turned is told to be corrupt, and its file is left.
-/
namespace Go.Proofs.YteckjkblngmenaaDoor
open Go.RowKit
set_option linter.unusedVariables false
set_option maxRecDepth 100000

theorem flip_all : ∀ r : Nat, r < 8 → ∀ x : Nat, x < 256 → bits BinOp.xor IntKind.u8 (x : Int) ((2 : Int) ^ r % 256) ≠ x ∧ 0 ≤ bits BinOp.xor IntKind.u8 (x : Int) ((2 : Int) ^ r % 256) ∧ bits BinOp.xor IntKind.u8 (x : Int) ((2 : Int) ^ r % 256) < 256 := by decide +kernel
theorem flip_one (r : Nat) (x : Int) (hr : r < 8) (h0 : 0 ≤ x) (h1 : x < 256) : bits BinOp.xor IntKind.u8 x ((2 : Int) ^ r % 256) ≠ x ∧ 0 ≤ bits BinOp.xor IntKind.u8 x ((2 : Int) ^ r % 256) ∧ bits BinOp.xor IntKind.u8 x ((2 : Int) ^ r % 256) < 256 := by
  obtain ⟨y, rfl⟩ := Int.eq_ofNat_of_zero_le h0
  exact flip_all r hr y (by omega)
theorem cs_set (l : List Int) (k : Nat) (x : Int) : (cs l).set k (.int .u8 x) = cs (l.set k x) := by simp [cs, List.map_set]
theorem set_bytes {l : List Int} (h : C.Bytes l) (k : Nat) {x : Int} (hx : 0 ≤ x ∧ x < 256) : C.Bytes (l.set k x) := fun y hy => by
  rcases List.mem_or_eq_of_mem_set hy with h1 | h1
  · exact h y h1
  · rw [h1]; exact hx

/-- What the law's first loop holds. -/
structure Bp (w : World) (B lb fb : Nat) (r : Int) (wr : World) (fv vo ve : Value) (Fs : List (List Opn)) (n : Nat) (l : List (Opn × Value)) : Prop where
  lo : Lo B wr lb fb fv vo ve r Fs n 1048576 l
  bw : Below w.heap.size w wr
  hB : B ≤ wr.heap.size
  len : ∀ f ∈ Fs, f.length ≤ 50
theorem Bp.below {w : World} {B lb fb : Nat} {r : Int} {wr w' : World} {fv vo ve : Value} {Fs : List (List Opn)} {n : Nat} {l : List (Opn × Value)} (h : Bp w B lb fb r wr fv vo ve Fs n l) (hb : Below wr.heap.size wr w') : Bp w B lb fb r w' fv vo ve Fs n l :=
  ⟨h.lo.below hb, bt h.bw hb, Nat.le_trans h.hB hb.size, h.len⟩
theorem Bp.app {w : World} {B lb fb : Nat} {r : Int} {wr w' : World} {fv vo ve fv' vo' ve' : Value} {Fs : List (List Opn)} {n : Nat} {l l' : List (Opn × Value)} {q : List Opn} (h : Bp w B lb fb r wr fv vo ve Fs n l) (hw : w.heap.size ≤ B) (hlo : Lo B w' lb fb fv' vo' ve' r (apF 1048576 Fs q) n 1048576 l') (hx : Lx (Ft lb fb fv vo ve) (Ft lb fb fv' vo' ve') wr w') (hq : q.length ≤ 50) :
    Bp w B lb fb r w' fv' vo' ve' (apF 1048576 Fs q) n l' := by
  refine ⟨hlo, h.bw.trans ((h.lo.lg.fr hx h.hB).mono hw), Nat.le_trans h.hB hx.size, fun f hf => ?_⟩
  unfold apF at hf
  split at hf
  · rcases List.mem_append.1 hf with hf | hf
    · exact h.len f hf
    · rw [List.mem_singleton.1 hf]; exact hq
  · exact h.len f hf

theorem bodies_small {r : Int} (h0 : 0 ≤ r) (h1 : r ≤ 15) {Fs : List (List Opn)} (hg : Good Fs) (hl : ∀ f ∈ Fs, f.length ≤ 50) : ∀ b ∈ fb0 r :: Fs.map encA, b.length < 65536 := by
  intro b hb
  rcases List.mem_cons.1 hb with rfl | hb
  · rw [fb0_len h0 h1]; decide
  · obtain ⟨f, hf, rfl⟩ := List.mem_map.1 hb
    have := encA_less (hg f hf).2.1 (hl f hf)
    omega
theorem own_byte {B : Nat} {w : World} {g n c : Nat} {xs : List Int} (h : Ow B w (.slice (some ⟨g, 0, none⟩) n c) xs) (hn : xs.length = n) {i : Nat} (hi : i < n) : w.cell? ⟨g, i, none⟩ = some (.int .u8 (xs.getD i 0)) := by
  subst hn
  have := World.ownsRow.cellAt h i (by omega)
  rw [this]
  simp [hi]

set_option maxHeartbeats 16000000 in
theorem bits_walk (va : Value) (la : List (List (Opn × Value))) (bit : Int) (w : World) (hA : Oss w va la) (hL : Lay w) :
    Calls Tryd.prog 5 #[va, .int .i64 bit] w fun e w' => e = .returned (.bool true) ∧ Below w.heap.size w w' := by
  have HA := hid hA
  have HL := hid hL
  have H2 := hid hL.two
  have HAL := hid (galive_any w hL)
  obtain ⟨aa, ca, rfl, _, _⟩ := hA.form
  obtain ⟨m, hm⟩ : ∃ m, la.length = m := ⟨_, rfl⟩
  have HM := hid hm
  rw [hm] at HA ⊢
  clear hA hL hm
  by_cases hg1 : (20 : Int) < (m : Int)
  · go_enter Tryd.func5, Tryd.ntmps5
    go_wp2_with fail
    refine HAL.out.mono ?_
    rintro e w1 ⟨rfl, b1⟩
    have B1 := hid b1
    clear b1
    go_wp2
    go_ret
    exact ⟨rfl, B1.out⟩
  have hm20 : m ≤ 20 := by omega
  go_enter Tryd.func5, Tryd.ntmps5
  go_wp2_with fail
  refine HAL.out.mono ?_
  rintro e w1 ⟨rfl, b1⟩
  have B1 := hid b1
  clear b1
  go_wp2_with fail
  refine (new_ok 1048576 (by decide)).mono ?_
  rintro e w2 ⟨rfl, b2, v2, hf2⟩
  obtain ⟨B, hB⟩ : ∃ B, w1.heap.size = B := ⟨_, rfl⟩
  have HBB : Hid (w.heap.size ≤ B) := hid (by rw [← hB]; exact B1.out.size)
  rw [hB] at b2 hf2 ⊢
  have B2 := hid b2
  have F2 := hid hf2
  have S2 : Hid (B ≤ w2.heap.size) := hid (by have := hf2.lt; omega)
  clear b2 hf2 hB
  go_wp2_with fail
  refine (format_any F2.out (HL.out.low (B1.out.trans (B2.out.mono HBB.out)) H2.out) S2.out 7 (by decide) (by decide)).mono ?_
  rintro e w3 h3
  rcases h3 with ⟨hbad, _⟩ | ⟨_, lb, fv3, rfl, hlo3, hx3⟩
  · exact absurd hbad (by decide)
  have KP : Hid (Bp w B lb B 7 w3 fv3 (.slice none 0 0) (.slice none 0 0) [] 10 []) := hid ⟨hlo3, B1.out.trans ((B2.out.trans (hx3.below (fun k hk => by
    rcases hk with rfl | hk
    · exact F2.out.2.1
    · exact (F2.out.own.lt k hk).1) S2.out)).mono HBB.out), Nat.le_trans S2.out hx3.size, fun f hf => by cases hf⟩
  clear hlo3 hx3 F2 B2 S2 B1
  go_wp2
  go_loopw [8] (fun i wr => ∃ (k : Nat) (fv vo ve : Value) (Fs : List (List Opn)) (l : List (Opn × Value)), i = .int .i64 k ∧ k ≤ m ∧ Bp w B lb B 7 wr fv vo ve Fs 10 l) (fun i _ => m - (intOf i).toNat)
  case atStart => exact ⟨0, _, _, _, _, _, rfl, Nat.zero_le _, KP.out⟩
  case round =>
    obtain ⟨k, fv, vo, ve, Fs, l, rfl, hk, hkp⟩ := hrel
    have K0 := hid hkp
    clear hkp KP
    by_cases hlt : k < m
    · have hlt' : (k : Int) < (m : Int) := by omega
      obtain ⟨b, off, c, u, e1, hb, hc, ho⟩ := HA.out.at (i := k) (by rw [HM.out]; exact hlt)
      simp only [Value.slice.injEq] at e1
      obtain ⟨rfl, -, rfl⟩ := e1
      have hc6 : wr.cell? ⟨b, off + k, none⟩ = some u := (K0.out.bw.cell hb).trans hc
      have HO := hid ho
      obtain ⟨ua, uc, rfl, _, _⟩ := Sl.form ho.1
      obtain ⟨qq, hqq⟩ : ∃ qq, la[k]'(by rw [HM.out]; exact hlt) = qq := ⟨_, rfl⟩
      rw [hqq] at HO hc6
      clear hc ho
      obtain ⟨N, hN⟩ : ∃ N, qq.length = N := ⟨_, rfl⟩
      rw [hN] at HO hc6
      have HN := hid hN
      clear hN hqq
      have HLG := hid (long_all (.slice ua N uc) qq 50 wr (HO.out.later K0.out.bw) (by decide))
      obtain ⟨lbv, hlb⟩ : ∃ b, longB qq 50 = b := ⟨_, rfl⟩
      rw [hlb] at HLG
      have HLB := hid hlb
      clear hlb
      go_wp2_with fail
      refine HLG.out.mono ?_
      rintro e w7 ⟨rfl, rfl⟩
      cases lbv with
      | true =>
        go_wp2
        go_ret
        exact ⟨rfl, K0.out.bw⟩
      | false =>
        obtain ⟨hN50, hfine⟩ := longB_no HLB.out
        have HAP := hid (lappend_any K0.out.lo (HL.out.low K0.out.bw H2.out) K0.out.hB (Oq.old K0.out.lo.lg HBB.out HO.out K0.out.bw) (fun p hp => ⟨(hfine p hp).1, by have := (hfine p hp).2; omega⟩) (by omega))
        have HQ50 : Hid ((fsts qq).length ≤ 50) := hid (by unfold fsts; rw [List.length_map]; exact hN50)
        have hk' : k + 1 ≤ m := hlt
        clear hN50 hfine HLG
        go_wp2_with fail
        refine HAP.out.mono ?_
        rintro e w8 ⟨rfl, fv8, vo8, ve8, l8, hlo8, hx8, hn8⟩
        have K8 := hid (K0.out.app HBB.out hlo8 hx8 HQ50.out)
        clear hlo8 hx8 hn8 HAP
        go_wp2_with fail
        go_roundw
        case rel => exact ⟨k + 1, fv8, vo8, ve8, _, l8, by go_num, hk', K8.out⟩
        case measure => simp [intOf]; omega
    · have hlt' : ¬ (k : Int) < (m : Int) := by omega
      go_wp2_with fail
      refine (bytes_any K0.out.lo.lg.fi).mono ?_
      rintro e w6 ⟨v6, rfl, ho6, b6⟩
      have hlen := lby_len (r := 7) (by decide) (by decide) Fs
      have hN10 : 10 ≤ (lby 7 Fs).length := by omega
      have hNM : (lby 7 Fs).length ≤ 1048576 := by have := K0.out.lo.room; omega
      obtain ⟨g, cap, rfl, hg, hg2⟩ := World.ownsRow.form ho6 (by omega)
      have HGD := hid K0.out.lo.good
      have HLN := hid K0.out.len
      have BW6 := hid (bt K0.out.bw b6)
      obtain ⟨G0, hG0⟩ : ∃ G0, wr.heap.size = G0 := ⟨_, rfl⟩
      rw [hG0] at ho6 hg
      have HGW : Hid (G0 ≤ g) := hid hg
      have HS6 : Hid (w.heap.size ≤ G0) := hid (by rw [← hG0]; exact K0.out.bw.size)
      have HSB : Hid (B ≤ w6.heap.size) := hid (Nat.le_trans K0.out.hB b6.size)
      obtain ⟨ls, hls⟩ : ∃ ls, fb0 7 :: Fs.map encA = ls := ⟨_, rfl⟩
      have HLS := hid hls
      have hlb : lby 7 Fs = C.cat ls := by rw [← hls]; rfl
      have HLB := hid hlb
      have hlsl : ∀ b ∈ ls, b.length < 65536 := by rw [← hls]; exact bodies_small (by decide) (by decide) K0.out.lo.good K0.out.len
      have HLSL := hid hlsl
      obtain ⟨N, hN⟩ : ∃ N, (lby 7 Fs).length = N := ⟨_, rfl⟩
      have HO6 := hid ho6
      rw [hN] at HO6 hN10 hNM ⊢
      have HN := hid hN
      clear ho6 b6 K0 hlen hls hlb hlsl hN hg hG0
      by_cases h32 : bit < 32
      · go_wp2
        go_ret
        exact ⟨rfl, BW6.out⟩
      by_cases h8 : 8 * (N : Int) ≤ bit
      · have hd1 : decide (bit < 32) = false := by simpa using h32
        go_wp2
        go_ret
        exact ⟨rfl, BW6.out⟩
      obtain ⟨Z, rfl⟩ := Int.eq_ofNat_of_zero_le (show 0 ≤ bit by omega)
      have hd1 : decide ((Z : Int) < 32) = false := by simp; omega
      have hd2 : decide (8 * (N : Int) ≤ (Z : Int)) = false := by simp; omega
      have hd3 : decide ((N : Int) < 10) = false := by simp; omega
      have hq : Z / 8 < N := by omega
      go_wp2
      go_loopw [10] (fun a wr => ∃ j : Nat, j ≤ ls.length ∧ a = .int .i64 (atF ls j : Nat) ∧ Ow G0 wr (.slice (some ⟨g, 0, none⟩) N cap) (lby 7 Fs) ∧ Below w.heap.size w wr ∧ B ≤ wr.heap.size ∧ atF ls j ≤ Z / 8) (fun a _ => N - (intOf a).toNat)
      case atStart => exact ⟨0, Nat.zero_le _, rfl, HO6.out, BW6.out, HSB.out, by rw [atF_zero]; omega⟩
      case round =>
        obtain ⟨j, hj, rfl, how, hbw, hsb, hat⟩ := hrel
        have HO7 := hid how
        have BW7 := hid hbw
        have HSB7 := hid hsb
        clear how hbw hsb HO6 BW6 HSB
        have hjl : j < ls.length := by
          rcases Nat.lt_or_ge j ls.length with h | h
          · exact h
          · exfalso
            have e : j = ls.length := by omega
            have : atF ls j = N := by unfold atF; rw [e, List.take_length, ← HLB.out, HN.out]
            omega
        have hend := atF_end ls hjl
        have hsu := atF_succ ls hjl
        have hw := at_word ls hjl (HLSL.out _ (List.getElem_mem hjl))
        rw [← HLB.out] at hw hend
        rw [HN.out] at hend
        obtain ⟨A, hA⟩ : ∃ A, atF ls j = A := ⟨_, rfl⟩
        obtain ⟨L, hL⟩ : ∃ L, (ls[j]).length = L := ⟨_, rfl⟩
        have HA' := hid hA
        have HL' := hid hL
        rw [hA] at hat hsu hw ⊢
        rw [hL] at hsu hw
        have hAN : A + 8 + L ≤ N := by omega
        have c0 := own_byte HO7.out HN.out (i := A) (by omega)
        have c1 := own_byte HO7.out HN.out (i := A + 1) (by omega)
        rw [hw.1] at c0
        rw [hw.2] at c1
        obtain ⟨X0, hX0⟩ : ∃ X0, (L : Int) % 256 = X0 := ⟨_, rfl⟩
        obtain ⟨X1, hX1⟩ : ∃ X1, (L : Int) / 256 = X1 := ⟨_, rfl⟩
        rw [hX0] at c0
        rw [hX1] at c1
        have hLX : (L : Int) = X0 + 256 * X1 := by omega
        have HLX := hid hLX
        have hX01 : 0 ≤ X0 ∧ X0 < 256 ∧ 0 ≤ X1 ∧ X1 ≤ 4096 := by omega
        obtain ⟨x00, x01, x10, x11⟩ := hX01
        have c0' : wr.cell? ⟨g, 0 + A, none⟩ = some (.int .u8 X0) := by rw [Nat.zero_add]; exact c0
        have i1 : (A : Int) < (N : Int) := by omega
        have i2 : (A : Int) + 1 < (N : Int) := by omega
        have i3 : ((A : Int) + 1).toNat = A + 1 := by omega
        have g1 : decide ((A : Int) + 8 ≤ (N : Int)) = true := by simp; omega
        have hLe := hid hL
        clear hA hL hw hX0 hX1 hLX hend
        by_cases hgo : A + 8 + L ≤ Z / 8
        · have g2 : decide ((A : Int) + 8 + X0 + 256 * X1 ≤ (Z : Int) / 8) = true := by simp; have := HLX.out; omega
          go_wp2
          go_quiet (fail)
          go_wp2
          go_quiet (fail)
          go_wp2
          go_roundw
          case rel =>
            refine ⟨j + 1, hjl, ?_, HO7.out, bt (bt BW7.out (bd _ _)) (bd _ _), HSB7.out, by rw [hsu]; omega⟩
            rw [hsu]
            have h1 := HLX.out
            have h2 : wrap64 ((A : Int) + (8 + X0 + 256 * X1)) = ((A + 8 + L : Nat) : Int) := by unfold wrap64; omega
            first
              | (rw [h2])
              | (congr 1; omega)
              | go_num
          case measure => simp [intOf]; omega
        · have g2 : decide ((A : Int) + 8 + X0 + 256 * X1 ≤ (Z : Int) / 8) = false := by simp; have := HLX.out; omega
          go_wp2
          go_quiet (fail)
          by_cases h4 : Z / 8 < A + 4
          · have h4b : decide ((Z : Int) / 8 < (A : Int) + 4) = true := by simp; omega
            go_wp2
            go_ret
            exact ⟨rfl, bt BW7.out (bd _ _)⟩
          · have h4b : decide ((Z : Int) / 8 < (A : Int) + 4) = false := by simp; omega
            have hcell := own_byte HO7.out HN.out hq
            have hfz := World.ownsRow.frozenAt (show wr.ownsRow G0 5 1 (.slice (some ⟨g, 0, none⟩) N cap) N (cs (lby 7 Fs)) by have := HO7.out; unfold Ow at this; rwa [HN.out] at this) (Z / 8)
            have hst := hid (World.ownsRow.stored (show (wr.drewN nq).ownsRow G0 5 1 (.slice (some ⟨g, 0, none⟩) N cap) N (cs (lby 7 Fs)) by have := HO7.out; unfold Ow at this; rwa [HN.out] at this) (Z / 8))
            obtain ⟨x, hx⟩ : ∃ x, (lby 7 Fs).getD (Z / 8) 0 = x := ⟨_, rfl⟩
            have hbx := C.getD_byte (lby_byt HGD.out (r := 7) (by decide) (by decide)) (Z / 8)
            rw [hx] at hcell hbx
            have HF := hid (flip_one (Z % 8) x (by omega) hbx.1 hbx.2)
            have HX := hid hx
            clear hx c0 c0' c1
            go_wp2_with fail
            have hst2 := hst.out (.int .u8 (bits BinOp.xor IntKind.u8 x ((2 : Int) ^ (Z % 8) % 256)))
            obtain ⟨y, hy⟩ : ∃ y, bits BinOp.xor IntKind.u8 x ((2 : Int) ^ (Z % 8) % 256) = y := ⟨_, rfl⟩
            rw [hy] at hst2 ⊢
            have HF2 : y ≠ x ∧ 0 ≤ y ∧ y < 256 := by rw [← hy]; exact HF.out
            clear hy hst HF hcell
            have hB8 : Below w.heap.size w (wr.drewN nq) := bt BW7.out (bd _ _)
            obtain ⟨w8, hw8⟩ : ∃ w8, wr.drewN nq = w8 := ⟨_, rfl⟩
            have hs8 : w8.heap.size = wr.heap.size := by rw [← hw8]; rfl
            rw [hw8] at hst2 hB8 ⊢
            obtain ⟨w9, hw9⟩ : ∃ w9, w8.setCell ⟨g, Z / 8, none⟩ (.int .u8 y) = w9 := ⟨_, rfl⟩
            rw [hw9] at hst2 ⊢
            clear hw9 hw8
            obtain ⟨ho9, hg9⟩ := hst2
            rw [cs_set] at ho9
            have hbw9 := bg hB8 hg9 (by have h1 := HS6.out; have h2 := HGW.out; omega)
            have hlby := lby_byt HGD.out (r := 7) (by decide) (by decide)
            have hBs := Bs.of_own ho9 (set_bytes hlby _ HF2.2)
            have hk : Z / 8 = atF ls j + (Z / 8 - A) := by rw [HA'.out]; omega
            have htl : Tl ((lby 7 Fs).set (Z / 8) y) none := by
              have hj7 : j < (fb0 7 :: Fs.map encA).length := by rw [HLS.out]; exact hjl
              have hLj : ((fb0 7 :: Fs.map encA)[j]).length = L := by simp only [HLS.out]; exact HL'.out
              have := tl_flip (r := 7) HGD.out (by decide) (by decide) hj7 (k := Z / 8 - A) (by omega) (by rw [hLj]; omega) HF2.2 (by rw [HLS.out, ← hk, HX.out]; exact HF2.1)
              rw [HLS.out, ← hk] at this
              exact this
            obtain ⟨ys, hys⟩ : ∃ ys, (lby 7 Fs).set (Z / 8) y = ys := ⟨_, rfl⟩
            have hyl : ys.length = N := by rw [← hys, List.length_set, HN.out]
            rw [hys] at hBs htl
            have HBS := hid hBs
            have HTL := hid htl
            have HYL := hid hyl
            have BW9 := hid hbw9
            clear hBs htl hyl hbw9 ho9 hg9 hB8 HX HF2 hlby hys hk hs8
            go_wp2_with fail
            refine (load_ok _ ys 1048576 (by decide) HBS.out (by rw [HYL.out]; exact hNM)).mono ?_
            rintro e w10 ⟨rfl, b10, v10, f10⟩
            obtain ⟨G, hG⟩ : ∃ G, w9.heap.size = G := ⟨_, rfl⟩
            rw [hG] at f10 ⊢
            have HGS : Hid (w.heap.size ≤ G) := hid (by rw [← hG]; exact BW9.out.size)
            have HG2 : Hid (Below G w9 w10) := hid (by rw [← hG]; exact b10)
            have HGG := hid hG
            have F10 := hid f10
            have BS10 := hid (HBS.out.below b10)
            have BW10 := hid (bt BW9.out b10)
            have S10 : Hid (G ≤ w10.heap.size) := hid (by rw [← hG]; exact b10.size)
            clear b10 f10 hG
            go_wp2_with fail
            refine (open_any F10.out (HL.out.low BW10.out H2.out) S10.out (by have := H2.out; have := HGS.out; omega)).mono ?_
            rintro e w11 h11
            rcases h11 with ⟨_, rfl, f11, x11⟩ | ⟨r, Gs, lb11, vo11, ve11, fv11, l11, v11, q11, hbad, _⟩
            · have hb11 : Below G w10 w11 := x11.below (fun k hk => by
                rcases hk with rfl | hk
                · exact F10.out.2.1
                · exact (F10.out.own.lt k hk).1) S10.out
              have F11 := hid f11
              have BS11 : Hid (Bs w11 (.slice (some ⟨g, 0, none⟩) N cap) ys) := hid (HBS.out.below (by rw [HGG.out]; exact HG2.out.trans hb11))
              have BW11 := hid (BW10.out.trans (hb11.mono HGS.out))
              clear f11 x11 hb11
              go_wp2_with fail
              refine (bytes_any F11.out).mono ?_
              rintro e w12 ⟨v12, rfl, ho12, b12⟩
              have BS12 := hid (BS11.out.below b12)
              have V12 := hid (ho12.bs F11.out.byt)
              have BW12 := hid (bt BW11.out b12)
              clear ho12 b12
              go_wp2_with fail
              refine (same_b _ _ ys ys w12 V12.out BS12.out).mono ?_
              rintro e w13 ⟨rfl, b13⟩
              have BW13 := hid (bt BW12.out b13)
              rw [show decide (ys = ys) = true by simp]
              clear b13
              go_wp2
              go_ret
              exact ⟨rfl, BW13.out⟩
            · have := Tl.det hbad HTL.out; cases this
end Go.Proofs.YteckjkblngmenaaDoor

/-
  What oplog's textSize, countSize and parts return is proved here, for right ops.
-/
namespace Go.Proofs.YteckjkblngmenaaDoor
open Go.RowKit
set_option linter.unusedVariables false
set_option maxRecDepth 100000

set_option maxHeartbeats 2000000 in
theorem textsize_any (A : Value) (o : Opn) (v : Value) (hA : A = opv o v) (w : World) (hL : Lay w) (hC : Cs w v o.cuts) (hr : rightO o = true) :
    Calls Tryd.prog 59 #[A] w fun e w' => e = .returned (.int .i64 ((encT o).length : Nat)) ∧ Below w.heap.size w w' := by
  have hfin := (fine_right hr).1
  have HB := hid (ba w (opo o v))
  have HE := hid (encode_yes o v _ (hL.below HB.out) (hC.below HB.out) hfin hr)
  have HO := hid (Ob.new w o v)
  have hby := encO_byt hr
  have HBY := hid hby
  have hsz : (M.str (encO o)).size ≤ 70368744177664 := by rw [str_size hby]; have := encO_less hr; omega
  have HSZ := hid hsz
  have HLT : Hid ((encT o).length ≤ 500) := hid (encT_less hr)
  have het : encT o = M.encText (M.str (encO o)) := rfl
  have HET := hid het
  subst hA
  obtain ⟨T, hT⟩ : ∃ T, encT o = T := ⟨_, rfl⟩
  rw [hT] at HET HLT ⊢
  clear hL hC hfin hby hsz het hT hr
  go_enter Tryd.func59, Tryd.ntmps59
  go_wp2_with (first | (refine wpList_load_op rfl _ rfl w.heap.size rfl o v HO.out ?_) | fail)
  refine HE.out.mono ?_
  rintro e w2 ⟨u, rfl, ho2, b2⟩
  have B2 := hid (bt HB.out b2)
  have U2 := hid (Bs.of_own ho2 HBY.out)
  obtain ⟨a2, c2, rfl, _⟩ := own_form ho2
  clear ho2 b2 HE
  go_wp2_with (first | (refine wpList_val _ rfl (run_conv rfl rfl U2.out) ?_) | fail)
  refine (puttext_bs _ w2 HSZ.out).mono ?_
  rintro e w3 ⟨v3, rfl, hb3, b3⟩
  rw [← HET.out] at hb3
  obtain ⟨a3, c3, rfl⟩ := hb3.form
  have B3 := hid (bt B2.out b3)
  clear hb3 b3
  go_wp2
  go_ret
  exact ⟨rfl, B3.out⟩

set_option maxHeartbeats 2000000 in
theorem countsize_any (n : Int) (w : World) (h0 : 0 ≤ n) (h1 : n < 562949953421312) :
    Calls Tryd.prog 60 #[.int .i64 n] w fun e w' => e = .returned (.int .i64 (M.sz n : Nat)) ∧ Below w.heap.size w w' := by
  have HP := hid (put_bs n w h0 h1)
  obtain ⟨T, hT⟩ : ∃ T, M.enc n = T := ⟨_, rfl⟩
  have hl : T.length = M.sz n := by rw [← hT, M.enc_length]
  have HL := hid hl
  rw [hT] at HP
  clear hT hl h0 h1
  go_enter Tryd.func60, Tryd.ntmps60
  go_wp2_with fail
  refine HP.out.mono ?_
  rintro e w3 ⟨v3, rfl, hb3, b3⟩
  obtain ⟨a3, c3, rfl⟩ := hb3.form
  rw [HL.out]
  have B3 := hid b3
  clear hb3 b3
  go_wp2
  go_ret
  exact ⟨rfl, B3.out⟩
theorem info_ops : (Tryd.prog.info? 31).map (fun i => (i.zero, i.size, i.bytes)) = some (some (.slice none 0 0), 1, 24) := by kernel_rfl
/-- A part of a slice, with no room behind it. -/
theorem run_slf3 {o : Oper} {a : Act} {x lo hi mx : Operand} {b off n c f t : Nat} {W : World} (ho : o.op = .slice 31 x (some lo) (some hi) (some mx)) (hx : a.eval x = .slice (some ⟨b, off, none⟩) n c) (hl : a.eval lo = .int .i64 (f : Nat)) (hh : a.eval hi = .int .i64 (t : Nat)) (hm : a.eval mx = .int .i64 (t : Nat)) (h1 : f < t) (h2 : t ≤ c) :
    (execOp a.eval o).run Tryd.prog W = .ok (.value (.slice (some ⟨b, off + f * 20, none⟩) (t - f) (t - f))) W := by
  unfold execOp
  simp only [ho, hx, Option.map_some, hl, hh, hm]
  have e5 : (f : Int) ≤ (t : Int) := by omega
  have e6 : (t : Int) ≤ (c : Int) := by omega
  have e8 : (0 : Int) ≤ (f : Int) := by omega
  simp [go_sem, e5, e6, e8]
  omega

/-- Ops cut into parts, one after the other: the parts that are done, the part under way, how many bytes it has without its count. -/
def stepP (s : List (List Opn) × List Opn × Nat) (o : Opn) : List (List Opn) × List Opn × Nat :=
  if s.2.1 ≠ [] ∧ 60000 < M.sz ((s.2.1.length + 1 : Nat) : Int) + s.2.2 + (encT o).length then (s.1 ++ [s.2.1], [o], (encT o).length) else (s.1, s.2.1 ++ [o], s.2.2 + (encT o).length)
def foldP (l : List Opn) : List (List Opn) × List Opn × Nat := l.foldl stepP ([], [], 0)
def partsP (l : List Opn) : List (List Opn) := if (foldP l).2.1 = [] then (foldP l).1 else (foldP l).1 ++ [(foldP l).2.1]
theorem foldP_snoc (l : List Opn) (o : Opn) : foldP (l ++ [o]) = stepP (foldP l) o := by unfold foldP; rw [List.foldl_append]; rfl
theorem snoc_ind {α : Type} {P : List α → Prop} (h0 : P []) (h1 : ∀ l o, P l → P (l ++ [o])) (l : List α) : P l := by
  have h : ∀ r : List α, P r.reverse := by
    intro r
    induction r with
    | nil => exact h0
    | cons a r ih => rw [List.reverse_cons]; exact h1 _ _ ih
  have := h l.reverse
  rwa [List.reverse_reverse] at this
theorem foldP_all (l : List Opn) : (foldP l).1.flatten ++ (foldP l).2.1 = l := by
  refine snoc_ind (P := fun l => (foldP l).1.flatten ++ (foldP l).2.1 = l) ?_ ?_ l
  · rfl
  · intro l o ih
    rw [foldP_snoc]
    unfold stepP
    split
    · simp only [List.flatten_append, List.flatten_cons, List.flatten_nil, List.append_nil]
      rw [ih]
    · simp only
      rw [← List.append_assoc, ih]
theorem partsP_all (l : List Opn) : (partsP l).flatten = l := by
  have h := foldP_all l
  unfold partsP
  split
  · rename_i e
    rw [e, List.append_nil] at h
    exact h
  · rw [List.flatten_append]
    simpa using h
theorem foldP_len (l : List Opn) : (foldP l).1.length ≤ l.length := by
  refine snoc_ind (P := fun l => (foldP l).1.length ≤ l.length) ?_ ?_ l
  · exact Nat.le_refl _
  · intro l o ih
    rw [foldP_snoc, List.length_append, List.length_singleton]
    unfold stepP
    split
    · rw [List.length_append, List.length_singleton]; omega
    · simp only; omega

/-- A row of slices that a call makes. -/
abbrev Pl (B : Nat) (w : World) (v : Value) (us : List Value) : Prop := w.ownsRow B 31 1 v us.length us
theorem Os.part {w : World} {b off n c : Nat} {l : List (Opn × Value)} (h : Os w (.slice (some ⟨b, off, none⟩) n c) l) (f t : Nat) (h1 : f < t) (h2 : t ≤ n) : Os w (.slice (some ⟨b, off + f * 20, none⟩) (t - f) (t - f)) ((l.take t).drop f) := by
  obtain ⟨⟨h0, a', c', e1, e2, e3, e4, e5⟩, h6⟩ := h
  simp only [Value.slice.injEq] at e1
  obtain ⟨rfl, rfl, rfl⟩ := e1
  have hl : ((l.take t).drop f).length = t - f := by rw [List.length_drop, List.length_take]; omega
  refine ⟨⟨flat_length opc 20 opc_len _, some ⟨b, off + f * 20, none⟩, t - f, by rw [hl], by omega, by omega, (fun e => by cases e), fun j u hu => ?_⟩, fun p hp => h6 p (List.mem_of_mem_take (List.mem_of_mem_drop hp))⟩
  have e : l.flatMap opc = (l.take f).flatMap opc ++ (((l.take t).drop f).flatMap opc ++ (l.drop t).flatMap opc) := by
    rw [← List.flatMap_append, ← List.flatMap_append]
    congr 1
    have h3 : l.take f = (l.take t).take f := by rw [List.take_take, Nat.min_eq_left (by omega)]
    rw [← List.append_assoc, h3, List.take_append_drop, List.take_append_drop]
  have hfl : ((l.take f).flatMap opc).length = f * 20 := by rw [flat_length opc 20 opc_len, List.length_take]; congr 1; omega
  have := e5 (f * 20 + j) u (by
    rw [e, List.getElem?_append_right (by omega), hfl, Nat.add_sub_cancel_left, List.getElem?_append_left (List.getElem?_eq_some_iff.1 hu).1]
    exact hu)
  obtain ⟨b', off', e7, e8⟩ := this
  simp only [Option.some.injEq, Addr.mk.injEq, and_true] at e7
  obtain ⟨rfl, rfl⟩ := e7
  exact ⟨b, off + f * 20, rfl, by rw [Nat.add_assoc]; exact e8⟩
end Go.Proofs.YteckjkblngmenaaDoor

/-
  What oplog's parts returns is proved here, for right ops: the ops, cut into those of one frame each.
-/
namespace Go.Proofs.YteckjkblngmenaaDoor
open Go.RowKit
set_option linter.unusedVariables false
set_option maxRecDepth 100000

/-- What the loop holds. -/
structure Pt (w0 w : World) (l : List (Opn × Value)) (o : Value) (k fr sz : Nat) (wr : World) (us : List Value) (ps : List (List (Opn × Value))) : Prop where
  row : Pl w.heap.size wr o us
  len : us.length = ps.length
  os : ∀ i (h : i < ps.length) (hk : i < us.length), Os w0 (us[i]) (ps[i])
  fold : foldP (fsts (l.take k)) = (ps.map fsts, fsts ((l.take k).drop fr), sz)
  fk : fr ≤ k
  k0 : k = 0 ∨ fr < k
  s5 : sz ≤ 500 * k
  bw : Below w.heap.size w wr
theorem Pt.below {w0 w : World} {l : List (Opn × Value)} {o : Value} {k fr sz : Nat} {wr w' : World} {us : List Value} {ps : List (List (Opn × Value))} (h : Pt w0 w l o k fr sz wr us ps) (hb : Below wr.heap.size wr w') : Pt w0 w l o k fr sz w' us ps :=
  ⟨own_fr h.row (Fr.of_below (S := fun _ => False) hb) (fun _ _ e => e), h.len, h.os, h.fold, h.fk, h.k0, h.s5, bt h.bw hb⟩
theorem fstsL (l : List (Opn × Value)) : (fsts l).length = l.length := by simp [fsts]
theorem fsts_take1 {l : List (Opn × Value)} {k : Nat} (hk : k < l.length) : fsts (l.take (k + 1)) = fsts (l.take k) ++ [(l[k]).1] := by
  unfold fsts
  rw [List.take_succ_eq_append_getElem hk, List.map_append]
  rfl
/-- An op joins the part under way. -/
theorem Pt.join {w0 w : World} {l : List (Opn × Value)} {o : Value} {k fr sz : Nat} {wr : World} {us : List Value} {ps : List (List (Opn × Value))} (h : Pt w0 w l o k fr sz wr us ps) (hk : k < l.length) {T : Nat} (hT : (encT (l[k]).1).length = T) (hT5 : T ≤ 500)
    (hc : fr = k ∨ ¬ 60000 < M.sz ((k + 1 - fr : Nat) : Int) + sz + T) : Pt w0 w l o (k + 1) fr (sz + T) wr us ps := by
  have hlen : (fsts ((l.take k).drop fr)).length = k - fr := by rw [fstsL, List.length_drop, List.length_take]; omega
  refine ⟨h.row, h.len, h.os, ?_, by have := h.fk; omega, .inr (by have := h.fk; omega), by have := h.s5; omega, h.bw⟩
  rw [fsts_take1 hk, foldP_snoc, h.fold]
  unfold stepP
  rw [if_neg]
  · rw [hT]
    congr 1
    congr 1
    unfold fsts
    rw [List.take_succ_eq_append_getElem hk, List.drop_append_of_le_length (by rw [List.length_take]; have := h.fk; omega), List.map_append]
    rfl
  · rintro ⟨h1, h2⟩
    rw [hT] at h2
    simp only [hlen] at h2
    rcases hc with hc | hc
    · exact h1 (List.length_eq_zero_iff.1 (by simp only; rw [hlen]; omega))
    · apply hc
      have e : k + 1 - fr = k - fr + 1 := by have := h.fk; omega
      rw [e]
      exact h2
/-- The part under way is done. -/
theorem Pt.flush {w0 w : World} {l : List (Opn × Value)} {o o' : Value} {k fr sz : Nat} {wr w' : World} {us : List Value} {ps : List (List (Opn × Value))} {u : Value} (h : Pt w0 w l o k fr sz wr us ps) (hk : k < l.length) {T : Nat} (hT : (encT (l[k]).1).length = T) (hT5 : T ≤ 500) (hfr : fr < k)
    (hc : 60000 < M.sz ((k + 1 - fr : Nat) : Int) + sz + T) (hu : Os w0 u ((l.take k).drop fr)) (hown : w'.ownsRow w.heap.size 31 1 o' (us.length + 1) (us ++ [u])) (hb : Below w.heap.size w w') : Pt w0 w l o' (k + 1) k (0 + T) w' (us ++ [u]) (ps ++ [(l.take k).drop fr]) := by
  have hlen : (fsts ((l.take k).drop fr)).length = k - fr := by rw [fstsL, List.length_drop, List.length_take]; omega
  refine ⟨by show w'.ownsRow _ _ _ _ _ _; rw [List.length_append, List.length_singleton]; exact hown, by rw [List.length_append, List.length_append, h.len]; rfl, fun i hi hki => ?_, ?_, Nat.le_succ k, .inr (Nat.lt_succ_self k), by omega, hb⟩
  · rw [List.getElem_append, List.getElem_append]
    by_cases e : i < ps.length
    · rw [dif_pos (by rw [h.len]; exact e), dif_pos e]
      exact h.os i e (by rw [h.len]; exact e)
    · rw [dif_neg (by rw [h.len]; exact e), dif_neg e]
      simp only [List.getElem_singleton]
      exact hu
  · rw [fsts_take1 hk, foldP_snoc, h.fold]
    unfold stepP
    have e : k + 1 - fr = k - fr + 1 := by omega
    rw [e] at hc
    rw [if_pos]
    · rw [hT, List.map_append, List.map_cons, List.map_nil, Nat.zero_add]
      congr 1
      congr 1
      unfold fsts
      rw [List.take_succ_eq_append_getElem hk, List.drop_append_of_le_length (by rw [List.length_take]; omega), List.drop_of_length_le (by rw [List.length_take]; omega)]
      rfl
    · refine ⟨fun e => ?_, ?_⟩
      · have := congrArg List.length e
        simp only [hlen, List.length_nil] at this
        omega
      · rw [hT]
        simp only [hlen]
        exact hc

/-- What parts answers. -/
def PX (w0 w : World) (l : List (Opn × Value)) (v' : Value) (w' : World) : Prop := ∃ (us : List Value) (ps : List (List (Opn × Value))), Pl w.heap.size w' v' us ∧ us.length = ps.length ∧ (∀ i (h : i < ps.length) (hk : i < us.length), Os w0 (us[i]) (ps[i])) ∧ ps.map fsts = partsP (fsts l) ∧ Below w.heap.size w w'
set_option maxHeartbeats 8000000 in
theorem parts_any (v : Value) (l : List (Opn × Value)) (w0 w : World) (hL : Lay w) (hO0 : Os w0 v l) (hb0 : Below w0.heap.size w0 w) (hr : ∀ p ∈ l, rightO p.1 = true) (hn : l.length ≤ 1048576) :
    Calls Tryd.prog 41 #[v] w fun e w' => ∃ v', e = .returned v' ∧ PX w0 w l v' w' := by
  have hO : Os w v l := hO0.later hb0
  obtain ⟨a, c, rfl, hlc, hcm⟩ := Sl.form hO.1
  have HO0 := hid hO0
  obtain ⟨n, hnn⟩ : ∃ n, l.length = n := ⟨_, rfl⟩
  have HN := hid hnn
  have HO := hid hO
  have HR := hid hr
  have HL := hid hL
  rw [hnn] at hn hlc HO HO0 ⊢
  clear hO hO0 hb0 hr hL hnn
  go_enter Tryd.func41, Tryd.ntmps41
  go_wp2
  go_loopw [3, 4, 5, 11] (fun o f s i wr => ∃ (k fr sz : Nat) (us : List Value) (ps : List (List (Opn × Value))), f = .int .i64 fr ∧ s = .int .i64 sz ∧ i = .int .i64 k ∧ k ≤ n ∧ Pt w0 w l o k fr sz wr us ps) (fun _ _ _ i _ => n - (intOf i).toNat)
  case atStart => exact ⟨0, 0, 0, [], [], rfl, rfl, rfl, Nat.zero_le _, ⟨World.ownsRow_nil _ _ _ _, rfl, fun i h => absurd h (Nat.not_lt_zero _), rfl, Nat.le_refl _, .inl rfl, Nat.le_refl _, Below.refl _ _⟩⟩
  case round =>
    obtain ⟨k, fr, sz, us, ps, rfl, rfl, rfl, hk, hpt⟩ := hrel
    have P0 := hid hpt
    obtain ⟨ao, co, rfl, _⟩ := own_cap2 hpt.row
    have hfk := hpt.fk
    have hs5 := hpt.s5
    have hk0 := hpt.k0
    clear hpt
    by_cases hlt : k < n
    · have hlt' : (k : Int) < (n : Int) := by omega
      have hx : k < l.length := by rw [HN.out]; exact hlt
      obtain ⟨b, off, c', e1, _, _, hbl, hc⟩ := HO.out.inv (by rw [HN.out]; omega)
      rw [HN.out] at e1
      simp only [Value.slice.injEq] at e1
      obtain ⟨rfl, -, rfl⟩ := e1
      have hc := hc k hx
      obtain ⟨⟨o, u⟩, hp⟩ : ∃ p, l[k] = p := ⟨_, rfl⟩
      have hcs := HO.out.2 _ (List.getElem_mem hx)
      have hro := HR.out _ (List.getElem_mem hx)
      rw [hp] at hc hcs hro
      dsimp only at hc hcs hro
      obtain ⟨T, hT⟩ : ∃ T, (encT o).length = T := ⟨_, rfl⟩
      have hT5 : T ≤ 500 := by rw [← hT]; exact encT_less hro
      have HT : Hid ((encT (l[k]).1).length = T) := hid (by rw [hp]; exact hT)
      have HC : Hid (∀ j, j < 20 → wr.cell? ⟨b, off + k * 20 + j, none⟩ = (opl o u)[j]?) := hid (fun j hj => (P0.out.bw.cell hbl).trans (hc j hj))
      have hvf : ∃ va n vc, u = .slice va n vc := by
        obtain ⟨va, vc, e, _⟩ := hcs.form
        exact ⟨va, _, vc, e⟩
      have HVF := hid hvf
      have HA5 := hid (ba wr (opo o u))
      have HO5 := hid (Ob.new wr o u)
      have HCS5 := hid ((hcs.below P0.out.bw).below HA5.out)
      have P5 := hid (P0.out.below HA5.out)
      have HTS := hid (textsize_any (opv o u) o u rfl _ (HL.out.below P5.out.bw) HCS5.out hro)
      rw [hT] at HTS
      clear hp hc hcs hro hvf hT
      go_wp2_with (first | (refine wpList_val _ rfl (run_load_opat rfl rfl HC.out) ?_) | (refine wpList_store_ops rfl _ _ rfl 0 o u HVF.out rfl rfl ?_) | (refine wpList_load_op rfl _ rfl wr.heap.size rfl o u HO5.out ?_) | fail)
      refine HTS.out.mono ?_
      rintro e w6 ⟨rfl, b6⟩
      have P6 := hid (P5.out.below b6)
      clear b6 HTS P5 P0 HO5 HCS5
      by_cases hfr : fr < k
      · have hfr' : (fr : Int) < (k : Int) := by omega
        have HCZ := hid (countsize_any ((k : Int) + 1 - (fr : Int)) w6 (by omega) (by omega))
        have hcast : ((k : Int) + 1 - (fr : Int)) = ((k + 1 - fr : Nat) : Int) := by omega
        obtain ⟨S, hS⟩ : ∃ S, M.sz ((k + 1 - fr : Nat) : Int) = S := ⟨_, rfl⟩
        have hS7 : S ≤ 7 := by rw [← hS]; exact (M.sz_pos _).2
        have HS := hid hS
        have hSi : M.sz ((k : Int) + 1 - (fr : Int)) = S := by rw [hcast]; exact hS
        rw [hSi] at HCZ
        clear hcast hS hSi
        by_cases hbig : 60000 < S + sz + T
        · have hb1 : decide ((60000 : Int) < (S : Int) + (sz : Int) + (T : Int)) = true := by simp; omega
          go_wp2_with fail
          refine HCZ.out.mono ?_
          rintro e w7 ⟨rfl, b7⟩
          have P7 := hid (P6.out.below b7)
          clear b7 HCZ P6
          have U7 : Hid (Os w0 (.slice (some ⟨b, off + fr * 20, none⟩) (k - fr) (k - fr)) ((l.take k).drop fr)) := hid (HO0.out.part fr k hfr (by omega))
          have hus : us.length ≤ k := by
            have h1 := foldP_len (fsts (l.take k))
            rw [P7.out.fold] at h1
            simp only [List.length_map, List.length_take] at h1
            have h2 := P7.out.len
            omega
          obtain ⟨U, hU⟩ : ∃ U, Value.slice (some ⟨b, off + fr * 20, none⟩) (k - fr) (k - fr) = U := ⟨_, rfl⟩
          have HU := hid hU
          have hkc : k ≤ c := by omega
          have HA8 := hid (ba w7 (.cells #[.slice (some ⟨b, off + fr * 20, none⟩) (k - fr) (k - fr)] 31))
          have RO8 : Hid ((w7.alloc (.cells #[.slice (some ⟨b, off + fr * 20, none⟩) (k - fr) (k - fr)] 31)).ownsRow w.heap.size 31 1 (.slice ao us.length co) us.length us) := hid (own_fr P7.out.row (Fr.of_below (S := fun _ => False) HA8.out) (fun _ _ e => e))
          have SL8 := hid (Sl.lit (sz := 1) w7 31 #[.slice (some ⟨b, off + fr * 20, none⟩) (k - fr) (k - fr)] 1 (by decide) rfl)
          have ONE : Hid (∀ x ∈ [Value.slice (some ⟨b, off + fr * 20, none⟩) (k - fr) (k - fr)], x.oneCell' = true) := hid (fun x hx => by rw [List.mem_singleton.1 hx]; rfl)
          have hb8 : (us.length + 1) * 24 ≤ 140737488355328 := by omega
          have hm8 : us.length + 1 ≤ maxLen := by unfold maxLen; omega
          have S8 : Hid (w.heap.size ≤ (w7.alloc (.cells #[.slice (some ⟨b, off + fr * 20, none⟩) (k - fr) (k - fr)] 31)).heap.size) := hid (bt P7.out.bw HA8.out).size
          clear hU
          go_wp2_with (first
            | (refine wpList_val _ rfl (run_slf3 rfl rfl rfl rfl rfl hfr hkc) ?_)
            | (at_builtin; refine wpList_append_sl 22 31 1 24 _ Tryd.underlying22 info_ops rfl (Nat.succ_pos 0) rfl _ _ rfl w.heap.size _ _ _ rfl RO8.out _ 1 _ rfl SL8.out ONE.out hb8 hm8 S8.out ?_; intro v9 w9 hown9 hg9 hv9; obtain ⟨a9, c9, rfl⟩ := own_shape hown9; have HO9 := hid hown9; have HG9 := hid hg9; have HV9 := hid hv9; clear hown9 hg9 hv9)
            | fail)
          have B9 : Hid (Below w.heap.size w w9) := hid ((bt P7.out.bw HA8.out).trans ((Fr.of_grown (S := fun k => Value.ownBlock (.slice ao us.length co) = some k) HG9.out (fun k e => e)).below (fun k hk e => by have := (RO8.out.lt k e).1; omega) S8.out))
          go_roundw
          case rel => exact ⟨k + 1, k, 0 + T, us ++ [.slice (some ⟨b, off + fr * 20, none⟩) (k - fr) (k - fr)], _, rfl, by go_num, by go_num, hlt, P7.out.flush hx HT.out hT5 hfr (by rw [HS.out]; exact hbig) U7.out HO9.out B9.out⟩
          case measure => simp [intOf]; omega
        · have hb1 : decide ((60000 : Int) < (S : Int) + (sz : Int) + (T : Int)) = false := by simp; omega
          go_wp2_with fail
          refine HCZ.out.mono ?_
          rintro e w7 ⟨rfl, b7⟩
          have P7 := hid (P6.out.below b7)
          clear b7 HCZ P6
          go_wp2_with fail
          go_roundw
          case rel => exact ⟨k + 1, fr, sz + T, us, ps, rfl, by go_num, by go_num, hlt, P7.out.join hx HT.out hT5 (.inr (by rw [HS.out]; exact hbig))⟩
          case measure => simp [intOf]; omega
      · have hfr' : ¬ (fr : Int) < (k : Int) := by omega
        go_wp2_with fail
        go_roundw
        case rel => exact ⟨k + 1, fr, sz + T, us, ps, rfl, by go_num, by go_num, hlt, P6.out.join hx HT.out hT5 (.inl (by omega))⟩
        case measure => simp [intOf]; omega
    · have hlt' : ¬ (k : Int) < (n : Int) := by omega
      have e1 : k = n := by omega
      subst e1
      have htk : l.take k = l := List.take_of_length_le (by rw [HN.out]; exact Nat.le_refl _)
      have hfo := P0.out.fold
      rw [htk] at hfo
      have HFO := hid hfo
      clear htk hfo
      by_cases hfr : fr < k
      · have hfr' : (fr : Int) < (k : Int) := by omega
        have hk0' : 0 < k := by omega
        obtain ⟨b, off, c', e1, hkc, _, hbl, _⟩ := HO.out.inv (by rw [HN.out]; exact hk0')
        rw [HN.out] at e1 hkc
        simp only [Value.slice.injEq] at e1
        obtain ⟨rfl, -, rfl⟩ := e1
        have U7 : Hid (Os w0 (.slice (some ⟨b, off + fr * 20, none⟩) (k - fr) (k - fr)) ((l.take k).drop fr)) := hid (HO0.out.part fr k hfr (Nat.le_refl _))
        have hus : us.length ≤ k := by
          have h1 := foldP_len (fsts l)
          rw [HFO.out] at h1
          simp only [List.length_map, HN.out] at h1
          have h2 := P0.out.len
          omega
        have HA8 := hid (ba wr (.cells #[.slice (some ⟨b, off + fr * 20, none⟩) (k - fr) (k - fr)] 31))
        have RO8 : Hid ((wr.alloc (.cells #[.slice (some ⟨b, off + fr * 20, none⟩) (k - fr) (k - fr)] 31)).ownsRow w.heap.size 31 1 (.slice ao us.length co) us.length us) := hid (own_fr P0.out.row (Fr.of_below (S := fun _ => False) HA8.out) (fun _ _ e => e))
        have SL8 := hid (Sl.lit (sz := 1) wr 31 #[.slice (some ⟨b, off + fr * 20, none⟩) (k - fr) (k - fr)] 1 (by decide) rfl)
        have ONE : Hid (∀ x ∈ [Value.slice (some ⟨b, off + fr * 20, none⟩) (k - fr) (k - fr)], x.oneCell' = true) := hid (fun x hx => by rw [List.mem_singleton.1 hx]; rfl)
        have hb8 : (us.length + 1) * 24 ≤ 140737488355328 := by omega
        have hm8 : us.length + 1 ≤ maxLen := by unfold maxLen; omega
        have S8 : Hid (w.heap.size ≤ (wr.alloc (.cells #[.slice (some ⟨b, off + fr * 20, none⟩) (k - fr) (k - fr)] 31)).heap.size) := hid (bt P0.out.bw HA8.out).size
        go_wp2_with (first
          | (refine wpList_val _ rfl (run_slf3 rfl rfl rfl rfl rfl hfr hkc) ?_)
          | (at_builtin; refine wpList_append_sl 22 31 1 24 _ Tryd.underlying22 info_ops rfl (Nat.succ_pos 0) rfl _ _ rfl w.heap.size _ _ _ rfl RO8.out _ 1 _ rfl SL8.out ONE.out hb8 hm8 S8.out ?_; intro v9 w9 hown9 hg9 hv9; obtain ⟨a9, c9, rfl⟩ := own_shape hown9; have HO9 := hid hown9; have HG9 := hid hg9; have HV9 := hid hv9; clear hown9 hg9 hv9)
          | fail)
        have B9 : Hid (Below w.heap.size w w9) := hid ((bt P0.out.bw HA8.out).trans ((Fr.of_grown (S := fun k => Value.ownBlock (.slice ao us.length co) = some k) HG9.out (fun k e => e)).below (fun k hk e => by have := (RO8.out.lt k e).1; omega) S8.out))
        go_ret
        refine ⟨_, rfl, us ++ [.slice (some ⟨b, off + fr * 20, none⟩) (k - fr) (k - fr)], ps ++ [(l.take k).drop fr], ?_, by rw [List.length_append, List.length_append, P0.out.len]; rfl, fun i hi hki => ?_, ?_, B9.out⟩
        · show w9.ownsRow _ _ _ _ _ _
          rw [List.length_append, List.length_singleton]
          exact HO9.out
        · rw [List.getElem_append, List.getElem_append]
          by_cases e : i < ps.length
          · rw [dif_pos (by rw [P0.out.len]; exact e), dif_pos e]
            exact P0.out.os i e (by rw [P0.out.len]; exact e)
          · rw [dif_neg (by rw [P0.out.len]; exact e), dif_neg e]
            simp only [List.getElem_singleton]
            exact U7.out
        · unfold partsP
          have htk : l.take k = l := List.take_of_length_le (by rw [HN.out]; exact Nat.le_refl _)
          rw [HFO.out, if_neg, List.map_append, List.map_cons, List.map_nil, htk]
          intro e
          have := congrArg List.length e
          simp only [fstsL, List.length_drop, List.length_nil, HN.out] at this
          omega
      · have hfr' : ¬ (fr : Int) < (k : Int) := by omega
        go_wp2_with fail
        go_ret
        refine ⟨_, rfl, us, ps, P0.out.row, P0.out.len, P0.out.os, ?_, P0.out.bw⟩
        unfold partsP
        rw [HFO.out, if_pos]
        have e2 : l.drop fr = [] := List.drop_of_length_le (by rw [HN.out]; omega)
        simp only [e2]
        rfl
end Go.Proofs.YteckjkblngmenaaDoor
