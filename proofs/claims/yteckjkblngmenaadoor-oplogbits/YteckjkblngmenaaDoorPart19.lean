/-
  Parts of the proof, one behind the other; what each proves stands at its head.
-/
import Derived.Test.YteckjkblngmenaaDoorPart18
import Derived.Test.YteckjkblngmenaaDoorPart8
import Derived.Deep.CutRange
import Derived.Deep.AppendLies
import Derived.Deep.QuietTactic
import Derived.BigQuiet
import Derived.Test.YteckjkblngmenaaDoorCards
import Derived.Test.YteckjkblngmenaaDoorTie
import Derived.Test.YteckjkblngmenaaDoorPart5
import Derived.Deep.SlicePairs
import Derived.LaidMore
import Derived.Deep.DeepWitnessRowRef
import Derived.SevenTiedAt

/-
  The law OplogBits returns true for all lists of lists of ops, and every number: a log of which one bit behind a frame's first four bytes is turned is told to be corrupt, and its file is left.
-/
namespace Go.Proofs.YteckjkblngmenaaDoor
open Go.RowKit
set_option linter.unusedVariables false
set_option maxRecDepth 100000

theorem flip_all : ∀ r : Nat, r < 8 → ∀ x : Nat, x < 256 → bits BinOp.xor IntKind.u8 (x : Int) ((2 : Int) ^ r % 256) ≠ x ∧ 0 ≤ bits BinOp.xor IntKind.u8 (x : Int) ((2 : Int) ^ r % 256) ∧ bits BinOp.xor IntKind.u8 (x : Int) ((2 : Int) ^ r % 256) < 256 := by decide +kernel
theorem flip_one (r : Nat) (x : Int) (hr : r < 8) (h0 : 0 ≤ x) (h1 : x < 256) : bits BinOp.xor IntKind.u8 x ((2 : Int) ^ r % 256) ≠ x ∧ 0 ≤ bits BinOp.xor IntKind.u8 x ((2 : Int) ^ r % 256) ∧ bits BinOp.xor IntKind.u8 x ((2 : Int) ^ r % 256) < 256 := by
  obtain ⟨y, rfl⟩ := Int.eq_ofNat_of_zero_le h0
  exact flip_all r hr y (by omega)
theorem cs_set (l : List Int) (k : Nat) (x : Int) : (cs l).set k (.int .u8 x) = cs (l.set k x) := by simp [cs, List.map_set]
theorem set_bytes {l : List Int} (h : C.Bytes l) (k : Nat) {x : Int} (hx : 0 ≤ x ∧ x < 256) : C.Bytes (l.set k x) := fun y hy => by
  rcases List.mem_or_eq_of_mem_set hy with h1 | h1
  · exact h y h1
  · rw [h1]; exact hx

/-- What the law's first loop holds. -/
structure Bp (w : World) (B lb fb : Nat) (r : Int) (wr : World) (fv vo ve : Value) (Fs : List (List Opn)) (n : Nat) (l : List (Opn × Value)) : Prop where
  lo : Lo B wr lb fb fv vo ve r Fs n 1048576 l
  bw : Below w.heap.size w wr
  hB : B ≤ wr.heap.size
  len : ∀ f ∈ Fs, f.length ≤ 50
theorem Bp.below {w : World} {B lb fb : Nat} {r : Int} {wr w' : World} {fv vo ve : Value} {Fs : List (List Opn)} {n : Nat} {l : List (Opn × Value)} (h : Bp w B lb fb r wr fv vo ve Fs n l) (hb : Below wr.heap.size wr w') : Bp w B lb fb r w' fv vo ve Fs n l :=
  ⟨h.lo.below hb, bt h.bw hb, Nat.le_trans h.hB hb.size, h.len⟩
theorem Bp.app {w : World} {B lb fb : Nat} {r : Int} {wr w' : World} {fv vo ve fv' vo' ve' : Value} {Fs : List (List Opn)} {n : Nat} {l l' : List (Opn × Value)} {q : List Opn} (h : Bp w B lb fb r wr fv vo ve Fs n l) (hw : w.heap.size ≤ B) (hlo : Lo B w' lb fb fv' vo' ve' r (apF 1048576 Fs q) n 1048576 l') (hx : Lx (Ft lb fb fv vo ve) (Ft lb fb fv' vo' ve') wr w') (hq : q.length ≤ 50) :
    Bp w B lb fb r w' fv' vo' ve' (apF 1048576 Fs q) n l' := by
  refine ⟨hlo, h.bw.trans ((h.lo.lg.fr hx h.hB).mono hw), Nat.le_trans h.hB hx.size, fun f hf => ?_⟩
  unfold apF at hf
  split at hf
  · rcases List.mem_append.1 hf with hf | hf
    · exact h.len f hf
    · rw [List.mem_singleton.1 hf]; exact hq
  · exact h.len f hf

theorem bodies_small {r : Int} (h0 : 0 ≤ r) (h1 : r ≤ 15) {Fs : List (List Opn)} (hg : Good Fs) (hl : ∀ f ∈ Fs, f.length ≤ 50) : ∀ b ∈ fb0 r :: Fs.map encA, b.length < 65536 := by
  intro b hb
  rcases List.mem_cons.1 hb with rfl | hb
  · rw [fb0_len h0 h1]; decide
  · obtain ⟨f, hf, rfl⟩ := List.mem_map.1 hb
    have := encA_less (hg f hf).2.1 (hl f hf)
    omega
theorem own_byte {B : Nat} {w : World} {g n c : Nat} {xs : List Int} (h : Ow B w (.slice (some ⟨g, 0, none⟩) n c) xs) (hn : xs.length = n) {i : Nat} (hi : i < n) : w.cell? ⟨g, i, none⟩ = some (.int .u8 (xs.getD i 0)) := by
  subst hn
  have := World.ownsRow.cellAt h i (by omega)
  rw [this]
  simp [hi]

set_option maxHeartbeats 16000000 in
theorem bits_walk (va : Value) (la : List (List (Opn × Value))) (bit : Int) (w : World) (hA : Oss w va la) (hL : Lay w) :
    Calls Tryd.prog 5 #[va, .int .i64 bit] w fun e w' => e = .returned (.bool true) ∧ Below w.heap.size w w' := by
  have HA := hid hA
  have HL := hid hL
  have H2 := hid hL.two
  have HAL := hid (galive_any w hL)
  obtain ⟨aa, ca, rfl, _, _⟩ := hA.form
  obtain ⟨m, hm⟩ : ∃ m, la.length = m := ⟨_, rfl⟩
  have HM := hid hm
  rw [hm] at HA ⊢
  clear hA hL hm
  by_cases hg1 : (20 : Int) < (m : Int)
  · go_enter Tryd.func5, Tryd.ntmps5
    go_wp2_with fail
    refine HAL.out.mono ?_
    rintro e w1 ⟨rfl, b1⟩
    have B1 := hid b1
    clear b1
    go_wp2
    go_ret
    exact ⟨rfl, B1.out⟩
  have hm20 : m ≤ 20 := by omega
  go_enter Tryd.func5, Tryd.ntmps5
  go_wp2_with fail
  refine HAL.out.mono ?_
  rintro e w1 ⟨rfl, b1⟩
  have B1 := hid b1
  clear b1
  go_wp2_with fail
  refine (new_ok 1048576 (by decide)).mono ?_
  rintro e w2 ⟨rfl, b2, v2, hf2⟩
  obtain ⟨B, hB⟩ : ∃ B, w1.heap.size = B := ⟨_, rfl⟩
  have HBB : Hid (w.heap.size ≤ B) := hid (by rw [← hB]; exact B1.out.size)
  rw [hB] at b2 hf2 ⊢
  have B2 := hid b2
  have F2 := hid hf2
  have S2 : Hid (B ≤ w2.heap.size) := hid (by have := hf2.lt; omega)
  clear b2 hf2 hB
  go_wp2_with fail
  refine (format_any F2.out (HL.out.low (B1.out.trans (B2.out.mono HBB.out)) H2.out) S2.out 7 (by decide) (by decide)).mono ?_
  rintro e w3 h3
  rcases h3 with ⟨hbad, _⟩ | ⟨_, lb, fv3, rfl, hlo3, hx3⟩
  · exact absurd hbad (by decide)
  have KP : Hid (Bp w B lb B 7 w3 fv3 (.slice none 0 0) (.slice none 0 0) [] 10 []) := hid ⟨hlo3, B1.out.trans ((B2.out.trans (hx3.below (fun k hk => by
    rcases hk with rfl | hk
    · exact F2.out.2.1
    · exact (F2.out.own.lt k hk).1) S2.out)).mono HBB.out), Nat.le_trans S2.out hx3.size, fun f hf => by cases hf⟩
  clear hlo3 hx3 F2 B2 S2 B1
  go_wp2
  go_loopw [8] (fun i wr => ∃ (k : Nat) (fv vo ve : Value) (Fs : List (List Opn)) (l : List (Opn × Value)), i = .int .i64 k ∧ k ≤ m ∧ Bp w B lb B 7 wr fv vo ve Fs 10 l) (fun i _ => m - (intOf i).toNat)
  case atStart => exact ⟨0, _, _, _, _, _, rfl, Nat.zero_le _, KP.out⟩
  case round =>
    obtain ⟨k, fv, vo, ve, Fs, l, rfl, hk, hkp⟩ := hrel
    have K0 := hid hkp
    clear hkp KP
    by_cases hlt : k < m
    · have hlt' : (k : Int) < (m : Int) := by omega
      obtain ⟨b, off, c, u, e1, hb, hc, ho⟩ := HA.out.at (i := k) (by rw [HM.out]; exact hlt)
      simp only [Value.slice.injEq] at e1
      obtain ⟨rfl, -, rfl⟩ := e1
      have hc6 : wr.cell? ⟨b, off + k, none⟩ = some u := (K0.out.bw.cell hb).trans hc
      have HO := hid ho
      obtain ⟨ua, uc, rfl, _, _⟩ := Sl.form ho.1
      obtain ⟨qq, hqq⟩ : ∃ qq, la[k]'(by rw [HM.out]; exact hlt) = qq := ⟨_, rfl⟩
      rw [hqq] at HO hc6
      clear hc ho
      obtain ⟨N, hN⟩ : ∃ N, qq.length = N := ⟨_, rfl⟩
      rw [hN] at HO hc6
      have HN := hid hN
      clear hN hqq
      have HLG := hid (long_all (.slice ua N uc) qq 50 wr (HO.out.later K0.out.bw) (by decide))
      obtain ⟨lbv, hlb⟩ : ∃ b, longB qq 50 = b := ⟨_, rfl⟩
      rw [hlb] at HLG
      have HLB := hid hlb
      clear hlb
      go_wp2_with fail
      refine HLG.out.mono ?_
      rintro e w7 ⟨rfl, rfl⟩
      cases lbv with
      | true =>
        go_wp2
        go_ret
        exact ⟨rfl, K0.out.bw⟩
      | false =>
        obtain ⟨hN50, hfine⟩ := longB_no HLB.out
        have HAP := hid (lappend_any K0.out.lo (HL.out.low K0.out.bw H2.out) K0.out.hB (Oq.old K0.out.lo.lg HBB.out HO.out K0.out.bw) (fun p hp => ⟨(hfine p hp).1, by have := (hfine p hp).2; omega⟩) (by omega))
        have HQ50 : Hid ((fsts qq).length ≤ 50) := hid (by unfold fsts; rw [List.length_map]; exact hN50)
        have hk' : k + 1 ≤ m := hlt
        clear hN50 hfine HLG
        go_wp2_with fail
        refine HAP.out.mono ?_
        rintro e w8 ⟨rfl, fv8, vo8, ve8, l8, hlo8, hx8, hn8⟩
        have K8 := hid (K0.out.app HBB.out hlo8 hx8 HQ50.out)
        clear hlo8 hx8 hn8 HAP
        go_wp2_with fail
        go_roundw
        case rel => exact ⟨k + 1, fv8, vo8, ve8, _, l8, by go_num, hk', K8.out⟩
        case measure => simp [intOf]; omega
    · have hlt' : ¬ (k : Int) < (m : Int) := by omega
      go_wp2_with fail
      refine (bytes_any K0.out.lo.lg.fi).mono ?_
      rintro e w6 ⟨v6, rfl, ho6, b6⟩
      have hlen := lby_len (r := 7) (by decide) (by decide) Fs
      have hN10 : 10 ≤ (lby 7 Fs).length := by omega
      have hNM : (lby 7 Fs).length ≤ 1048576 := by have := K0.out.lo.room; omega
      obtain ⟨g, cap, rfl, hg, hg2⟩ := World.ownsRow.form ho6 (by omega)
      have HGD := hid K0.out.lo.good
      have HLN := hid K0.out.len
      have BW6 := hid (bt K0.out.bw b6)
      obtain ⟨G0, hG0⟩ : ∃ G0, wr.heap.size = G0 := ⟨_, rfl⟩
      rw [hG0] at ho6 hg
      have HGW : Hid (G0 ≤ g) := hid hg
      have HS6 : Hid (w.heap.size ≤ G0) := hid (by rw [← hG0]; exact K0.out.bw.size)
      have HSB : Hid (B ≤ w6.heap.size) := hid (Nat.le_trans K0.out.hB b6.size)
      obtain ⟨ls, hls⟩ : ∃ ls, fb0 7 :: Fs.map encA = ls := ⟨_, rfl⟩
      have HLS := hid hls
      have hlb : lby 7 Fs = C.cat ls := by rw [← hls]; rfl
      have HLB := hid hlb
      have hlsl : ∀ b ∈ ls, b.length < 65536 := by rw [← hls]; exact bodies_small (by decide) (by decide) K0.out.lo.good K0.out.len
      have HLSL := hid hlsl
      obtain ⟨N, hN⟩ : ∃ N, (lby 7 Fs).length = N := ⟨_, rfl⟩
      have HO6 := hid ho6
      rw [hN] at HO6 hN10 hNM ⊢
      have HN := hid hN
      clear ho6 b6 K0 hlen hls hlb hlsl hN hg hG0
      by_cases h32 : bit < 32
      · go_wp2
        go_ret
        exact ⟨rfl, BW6.out⟩
      by_cases h8 : 8 * (N : Int) ≤ bit
      · have hd1 : decide (bit < 32) = false := by simpa using h32
        go_wp2
        go_ret
        exact ⟨rfl, BW6.out⟩
      obtain ⟨Z, rfl⟩ := Int.eq_ofNat_of_zero_le (show 0 ≤ bit by omega)
      have hd1 : decide ((Z : Int) < 32) = false := by simp; omega
      have hd2 : decide (8 * (N : Int) ≤ (Z : Int)) = false := by simp; omega
      have hd3 : decide ((N : Int) < 10) = false := by simp; omega
      have hq : Z / 8 < N := by omega
      go_wp2
      go_loopw [10] (fun a wr => ∃ j : Nat, j ≤ ls.length ∧ a = .int .i64 (atF ls j : Nat) ∧ Ow G0 wr (.slice (some ⟨g, 0, none⟩) N cap) (lby 7 Fs) ∧ Below w.heap.size w wr ∧ B ≤ wr.heap.size ∧ atF ls j ≤ Z / 8) (fun a _ => N - (intOf a).toNat)
      case atStart => exact ⟨0, Nat.zero_le _, rfl, HO6.out, BW6.out, HSB.out, by rw [atF_zero]; omega⟩
      case round =>
        obtain ⟨j, hj, rfl, how, hbw, hsb, hat⟩ := hrel
        have HO7 := hid how
        have BW7 := hid hbw
        have HSB7 := hid hsb
        clear how hbw hsb HO6 BW6 HSB
        have hjl : j < ls.length := by
          rcases Nat.lt_or_ge j ls.length with h | h
          · exact h
          · exfalso
            have e : j = ls.length := by omega
            have : atF ls j = N := by unfold atF; rw [e, List.take_length, ← HLB.out, HN.out]
            omega
        have hend := atF_end ls hjl
        have hsu := atF_succ ls hjl
        have hw := at_word ls hjl (HLSL.out _ (List.getElem_mem hjl))
        rw [← HLB.out] at hw hend
        rw [HN.out] at hend
        obtain ⟨A, hA⟩ : ∃ A, atF ls j = A := ⟨_, rfl⟩
        obtain ⟨L, hL⟩ : ∃ L, (ls[j]).length = L := ⟨_, rfl⟩
        have HA' := hid hA
        have HL' := hid hL
        rw [hA] at hat hsu hw ⊢
        rw [hL] at hsu hw
        have hAN : A + 8 + L ≤ N := by omega
        have c0 := own_byte HO7.out HN.out (i := A) (by omega)
        have c1 := own_byte HO7.out HN.out (i := A + 1) (by omega)
        rw [hw.1] at c0
        rw [hw.2] at c1
        obtain ⟨X0, hX0⟩ : ∃ X0, (L : Int) % 256 = X0 := ⟨_, rfl⟩
        obtain ⟨X1, hX1⟩ : ∃ X1, (L : Int) / 256 = X1 := ⟨_, rfl⟩
        rw [hX0] at c0
        rw [hX1] at c1
        have hLX : (L : Int) = X0 + 256 * X1 := by omega
        have HLX := hid hLX
        have hX01 : 0 ≤ X0 ∧ X0 < 256 ∧ 0 ≤ X1 ∧ X1 ≤ 4096 := by omega
        obtain ⟨x00, x01, x10, x11⟩ := hX01
        have c0' : wr.cell? ⟨g, 0 + A, none⟩ = some (.int .u8 X0) := by rw [Nat.zero_add]; exact c0
        have i1 : (A : Int) < (N : Int) := by omega
        have i2 : (A : Int) + 1 < (N : Int) := by omega
        have i3 : ((A : Int) + 1).toNat = A + 1 := by omega
        have g1 : decide ((A : Int) + 8 ≤ (N : Int)) = true := by simp; omega
        have hLe := hid hL
        clear hA hL hw hX0 hX1 hLX hend
        by_cases hgo : A + 8 + L ≤ Z / 8
        · have g2 : decide ((A : Int) + 8 + X0 + 256 * X1 ≤ (Z : Int) / 8) = true := by simp; have := HLX.out; omega
          go_wp2
          go_quiet (fail)
          go_wp2
          go_quiet (fail)
          go_wp2
          go_roundw
          case rel =>
            refine ⟨j + 1, hjl, ?_, HO7.out, bt (bt BW7.out (bd _ _)) (bd _ _), HSB7.out, by rw [hsu]; omega⟩
            rw [hsu]
            have h1 := HLX.out
            have h2 : wrap64 ((A : Int) + (8 + X0 + 256 * X1)) = ((A + 8 + L : Nat) : Int) := by unfold wrap64; omega
            first
              | (rw [h2])
              | (congr 1; omega)
              | go_num
          case measure => simp [intOf]; omega
        · have g2 : decide ((A : Int) + 8 + X0 + 256 * X1 ≤ (Z : Int) / 8) = false := by simp; have := HLX.out; omega
          go_wp2
          go_quiet (fail)
          by_cases h4 : Z / 8 < A + 4
          · have h4b : decide ((Z : Int) / 8 < (A : Int) + 4) = true := by simp; omega
            go_wp2
            go_ret
            exact ⟨rfl, bt BW7.out (bd _ _)⟩
          · have h4b : decide ((Z : Int) / 8 < (A : Int) + 4) = false := by simp; omega
            have hcell := own_byte HO7.out HN.out hq
            have hfz := World.ownsRow.frozenAt (show wr.ownsRow G0 5 1 (.slice (some ⟨g, 0, none⟩) N cap) N (cs (lby 7 Fs)) by have := HO7.out; unfold Ow at this; rwa [HN.out] at this) (Z / 8)
            have hst := hid (World.ownsRow.stored (show (wr.drewN nq).ownsRow G0 5 1 (.slice (some ⟨g, 0, none⟩) N cap) N (cs (lby 7 Fs)) by have := HO7.out; unfold Ow at this; rwa [HN.out] at this) (Z / 8))
            obtain ⟨x, hx⟩ : ∃ x, (lby 7 Fs).getD (Z / 8) 0 = x := ⟨_, rfl⟩
            have hbx := C.getD_byte (lby_byt HGD.out (r := 7) (by decide) (by decide)) (Z / 8)
            rw [hx] at hcell hbx
            have HF := hid (flip_one (Z % 8) x (by omega) hbx.1 hbx.2)
            have HX := hid hx
            clear hx c0 c0' c1
            go_wp2_with fail
            have hst2 := hst.out (.int .u8 (bits BinOp.xor IntKind.u8 x ((2 : Int) ^ (Z % 8) % 256)))
            obtain ⟨y, hy⟩ : ∃ y, bits BinOp.xor IntKind.u8 x ((2 : Int) ^ (Z % 8) % 256) = y := ⟨_, rfl⟩
            rw [hy] at hst2 ⊢
            have HF2 : y ≠ x ∧ 0 ≤ y ∧ y < 256 := by rw [← hy]; exact HF.out
            clear hy hst HF hcell
            have hB8 : Below w.heap.size w (wr.drewN nq) := bt BW7.out (bd _ _)
            obtain ⟨w8, hw8⟩ : ∃ w8, wr.drewN nq = w8 := ⟨_, rfl⟩
            have hs8 : w8.heap.size = wr.heap.size := by rw [← hw8]; rfl
            rw [hw8] at hst2 hB8 ⊢
            obtain ⟨w9, hw9⟩ : ∃ w9, w8.setCell ⟨g, Z / 8, none⟩ (.int .u8 y) = w9 := ⟨_, rfl⟩
            rw [hw9] at hst2 ⊢
            clear hw9 hw8
            obtain ⟨ho9, hg9⟩ := hst2
            rw [cs_set] at ho9
            have hbw9 := bg hB8 hg9 (by have h1 := HS6.out; have h2 := HGW.out; omega)
            have hlby := lby_byt HGD.out (r := 7) (by decide) (by decide)
            have hBs := Bs.of_own ho9 (set_bytes hlby _ HF2.2)
            have hk : Z / 8 = atF ls j + (Z / 8 - A) := by rw [HA'.out]; omega
            have htl : Tl ((lby 7 Fs).set (Z / 8) y) none := by
              have hj7 : j < (fb0 7 :: Fs.map encA).length := by rw [HLS.out]; exact hjl
              have hLj : ((fb0 7 :: Fs.map encA)[j]).length = L := by simp only [HLS.out]; exact HL'.out
              have := tl_flip (r := 7) HGD.out (by decide) (by decide) hj7 (k := Z / 8 - A) (by omega) (by rw [hLj]; omega) HF2.2 (by rw [HLS.out, ← hk, HX.out]; exact HF2.1)
              rw [HLS.out, ← hk] at this
              exact this
            obtain ⟨ys, hys⟩ : ∃ ys, (lby 7 Fs).set (Z / 8) y = ys := ⟨_, rfl⟩
            have hyl : ys.length = N := by rw [← hys, List.length_set, HN.out]
            rw [hys] at hBs htl
            have HBS := hid hBs
            have HTL := hid htl
            have HYL := hid hyl
            have BW9 := hid hbw9
            clear hBs htl hyl hbw9 ho9 hg9 hB8 HX HF2 hlby hys hk hs8
            go_wp2_with fail
            refine (load_ok _ ys 1048576 (by decide) HBS.out (by rw [HYL.out]; exact hNM)).mono ?_
            rintro e w10 ⟨rfl, b10, v10, f10⟩
            obtain ⟨G, hG⟩ : ∃ G, w9.heap.size = G := ⟨_, rfl⟩
            rw [hG] at f10 ⊢
            have HGS : Hid (w.heap.size ≤ G) := hid (by rw [← hG]; exact BW9.out.size)
            have HG2 : Hid (Below G w9 w10) := hid (by rw [← hG]; exact b10)
            have HGG := hid hG
            have F10 := hid f10
            have BS10 := hid (HBS.out.below b10)
            have BW10 := hid (bt BW9.out b10)
            have S10 : Hid (G ≤ w10.heap.size) := hid (by rw [← hG]; exact b10.size)
            clear b10 f10 hG
            go_wp2_with fail
            refine (open_any F10.out (HL.out.low BW10.out H2.out) S10.out (by have := H2.out; have := HGS.out; omega)).mono ?_
            rintro e w11 h11
            rcases h11 with ⟨_, rfl, f11, x11⟩ | ⟨r, Gs, lb11, vo11, ve11, fv11, l11, v11, q11, hbad, _⟩
            · have hb11 : Below G w10 w11 := x11.below (fun k hk => by
                rcases hk with rfl | hk
                · exact F10.out.2.1
                · exact (F10.out.own.lt k hk).1) S10.out
              have F11 := hid f11
              have BS11 : Hid (Bs w11 (.slice (some ⟨g, 0, none⟩) N cap) ys) := hid (HBS.out.below (by rw [HGG.out]; exact HG2.out.trans hb11))
              have BW11 := hid (BW10.out.trans (hb11.mono HGS.out))
              clear f11 x11 hb11
              go_wp2_with fail
              refine (bytes_any F11.out).mono ?_
              rintro e w12 ⟨v12, rfl, ho12, b12⟩
              have BS12 := hid (BS11.out.below b12)
              have V12 := hid (ho12.bs F11.out.byt)
              have BW12 := hid (bt BW11.out b12)
              clear ho12 b12
              go_wp2_with fail
              refine (same_b _ _ ys ys w12 V12.out BS12.out).mono ?_
              rintro e w13 ⟨rfl, b13⟩
              have BW13 := hid (bt BW12.out b13)
              rw [show decide (ys = ys) = true by simp]
              clear b13
              go_wp2
              go_ret
              exact ⟨rfl, BW13.out⟩
            · have := Tl.det hbad HTL.out; cases this
end Go.Proofs.YteckjkblngmenaaDoor

/-
  From a walk to the given statement: what the arguments' readings give (ops, rows of ops, bytes), and a world for the witness.
-/
namespace Go.Proofs.YteckjkblngmenaaDoor
open Go.RowKit Go.ChangeShapes Go.WideShapes Go.ChangeAt
set_option linter.unusedVariables false
set_option maxRecDepth 100000

theorem own : ownKnob Tryd.prog.godebug = none := by kernel_rfl
theorem laidOut : laidOutB Tryd.prog = true := by kernel_rfl

theorem Sl.of_rows {sz : Nat} {W : World} {x : Addr} {len cap : Nat} (hs : 0 < sz) (hl : len ≤ cap) (hm : cap ≤ maxLen) (R : Nat → List Value)
    (h : ∀ i, i < len → (R i).length = sz ∧ ∀ j u, (R i)[j]? = some u → W.cell? (x.add (i * sz + j)) = some u) : Sl sz W (.slice (some x) len cap) len ((List.range len).flatMap R) := by
  have hlen : ∀ n, n ≤ len → ((List.range n).flatMap R).length = n * sz := by
    intro n
    induction n with
    | zero => intro _; simp
    | succ n ih => intro hn; rw [List.range_succ, List.flatMap_append, List.length_append, ih (by omega)]; simp [(h n (by omega)).1, Nat.add_mul]
  have hat : ∀ n, n ≤ len → ∀ j u, ((List.range n).flatMap R)[j]? = some u → W.cell? (x.add j) = some u := by
    intro n
    induction n with
    | zero => intro _ j u hj; simp at hj
    | succ n ih =>
      intro hn j u hj
      rw [List.range_succ, List.flatMap_append] at hj
      by_cases hjl : j < n * sz
      · rw [List.getElem?_append_left (by rw [hlen n (by omega)]; exact hjl)] at hj
        exact ih (by omega) j u hj
      · rw [List.getElem?_append_right (by rw [hlen n (by omega)]; omega), hlen n (by omega)] at hj
        simp at hj
        have := (h n (by omega)).2 _ u hj
        rw [show n * sz + (j - n * sz) = j from by omega] at this
        exact this
  refine ⟨hlen len (Nat.le_refl _), some x, cap, rfl, hl, hm, fun h => (by cases h), fun j u hu => ?_⟩
  have h1 := hat len (Nat.le_refl _) j u hu
  have hpos : 0 < len := by
    rcases Nat.eq_zero_or_pos len with e | e
    · subst e; simp at hu
    · exact e
  obtain ⟨b, off, spot⟩ := x
  have hs0 : spot = none := by
    obtain ⟨h0, h0'⟩ := h 0 hpos
    obtain ⟨u0, hu0⟩ : ∃ u0, (R 0)[0]? = some u0 := ⟨_, List.getElem?_eq_getElem (by omega)⟩
    have := World.cell?_spot (h0' 0 u0 hu0)
    simpa [Addr.add] using this
  subst hs0
  rw [Addr.add_lit] at h1
  exact ⟨b, off, rfl, h1⟩

theorem cells_cut : Tryd.prog.cellsOf 84 = 4 := by kernel_rfl
theorem cells_id : Tryd.prog.cellsOf 52 = 2 := by kernel_rfl
theorem cells_char : Tryd.prog.cellsOf 54 = 3 := by kernel_rfl
theorem cells_int : Tryd.prog.cellsOf 3 = 1 := by kernel_rfl
theorem cells_str : Tryd.prog.cellsOf 9 = 1 := by kernel_rfl
theorem cells_bool : Tryd.prog.cellsOf 4 = 1 := by kernel_rfl
theorem cells_cuts : Tryd.prog.cellsOf 55 = 1 := by kernel_rfl
theorem cells_op : Tryd.prog.cellsOf 57 = 20 := by kernel_rfl

theorem list_3 {α : Type} {l : List α} (h : l.length = 3) : ∃ a b c, l = [a, b, c] := by
  match l, h with
  | [a, b, c], _ => exact ⟨a, b, c, rfl⟩
theorem list_4 {α : Type} {l : List α} (h : l.length = 4) : ∃ a b c d, l = [a, b, c, d] := by
  match l, h with
  | [a, b, c, d], _ => exact ⟨a, b, c, d, rfl⟩
theorem list_20 {α : Type} {l : List α} (h : l.length = 20) : ∃ a b c d e f g h i j k m n o p q r s t u, l = [a, b, c, d, e, f, g, h, i, j, k, m, n, o, p, q, r, s, t, u] := by
  match l, h with
  | [a, b, c, d, e, f, g, h, i, j, k, m, n, o, p, q, r, s, t, u], _ => exact ⟨a, b, c, d, e, f, g, h, i, j, k, m, n, o, p, q, r, s, t, u, rfl⟩

section
variable {H : Type} {enc : TypeId × Value → H} {W : World} {held : Bool}
theorem trod_id {n : Nat} {a b : Value} {x : DataW H × List MemPlace} (h : DataW.trod enc Tryd.prog W 0 (fun _ => true) held n 52 [a, b] = some x) : ∃ r m, a = .int .i64 r ∧ b = .int .i64 m := by
  obtain ⟨y0, y1, n, _, hl, h0, h1⟩ := trod_struct2 Tryd.underlying52 h
  simp [cells_int] at h0 h1
  obtain ⟨r, e0, _⟩ := DataW.trod_int Tryd.underlying3 h0
  obtain ⟨m, e1, _⟩ := DataW.trod_int Tryd.underlying3 h1
  simp at e0 e1
  exact ⟨r, m, e0, e1⟩
theorem trod_char {n : Nat} {a b c : Value} {x : DataW H × List MemPlace} (h : DataW.trod enc Tryd.prog W 0 (fun _ => true) held n 54 [a, b, c] = some x) : ∃ r m i, a = .int .i64 r ∧ b = .int .i64 m ∧ c = .int .i64 i := by
  obtain ⟨y0, y1, n, _, hl, h0, h1⟩ := trod_struct2 Tryd.underlying54 h
  simp [cells_int, cells_id] at h0 h1
  obtain ⟨r, m, e0, e1⟩ := trod_id h0
  obtain ⟨i, e2, _⟩ := DataW.trod_int Tryd.underlying3 h1
  simp at e2
  exact ⟨r, m, i, e0, e1, e2⟩
theorem trod_cut {n : Nat} {cs : List Value} {x : DataW H × List MemPlace} (h : DataW.trod enc Tryd.prog W 0 (fun _ => true) held n 84 cs = some x) : ∃ c : Ct, cs = cutc c := by
  obtain ⟨xs, k, hk, hxy, hlen, hxl, hfl⟩ := DataW.trod_struct Tryd.underlying84 h
  rw [cells_cut] at hlen
  obtain ⟨y0, y1, y2, rfl⟩ := list_3 hxl
  obtain ⟨v0, v1, v2, v3, rfl⟩ := list_4 hlen
  have g0 := hfl 0 _ rfl
  have g1 := hfl 1 _ rfl
  have g2 := hfl 2 _ rfl
  simp [cells_int, cells_id] at g0 g1 g2
  obtain ⟨r, m, rfl, rfl⟩ := trod_id g0
  obtain ⟨f, e1, _⟩ := DataW.trod_int Tryd.underlying3 g1
  obtain ⟨t, e2, _⟩ := DataW.trod_int Tryd.underlying3 g2
  simp at e1 e2
  subst e1; subst e2
  exact ⟨⟨r, m, f, t⟩, rfl⟩
theorem trod_cuts {n : Nat} {v : Value} {x : DataW H × List MemPlace} (h : DataW.trod enc Tryd.prog W 0 (fun _ => true) held n 55 [v] = some x) : ∃ l, Cs W v l := by
  rcases Go.Deep.open_slice Tryd.underlying55 h with ⟨hcs, _⟩ | ⟨x, len, c, m, n, D, Pl, hcs, _, hl, hm, hmm, _, hx⟩
  · simp at hcs
    subst hcs
    exact ⟨[], Cs.nil W⟩
  · simp at hcs
    subst hcs
    simp at hmm
    subst hmm
    rw [cells_cut] at hx
    have each : ∀ i, i < len → ∃ q : Ct, W.cells? 0 (x.add (i * 4)) 4 = some (cutc q) := fun i hi => by
      obtain ⟨cs', h1, h2⟩ := hx i (by omega)
      obtain ⟨q, rfl⟩ := trod_cut h2
      exact ⟨q, h1⟩
    have hinh : Inhabited Ct := ⟨Ct.zero⟩
    obtain ⟨q, hq⟩ := Go.Deep.choose_lt each
    refine ⟨(List.range len).map q, ?_⟩
    have := Sl.of_rows (sz := 4) (W := W) (x := x) (by decide) hl hm (fun i => cutc (q i)) (fun i hi => ⟨rfl, fun j u hu => by
      obtain ⟨_, _, hcell⟩ := World.cells?_some (hq i hi)
      have hj : j < 4 := (List.getElem?_eq_some_iff.1 hu).1
      have := hcell j hj
      rw [Go.Deep.add_add] at this
      rw [this, hu]⟩)
    unfold Cs
    rw [List.length_map, List.length_range, List.flatMap_map]
    exact this
theorem trod_op {n : Nat} {cs : List Value} {x : DataW H × List MemPlace} (h : DataW.trod enc Tryd.prog W 0 (fun _ => true) held n 57 cs = some x) : ∃ o v, cs = opc (o, v) ∧ Cs W v o.cuts := by
  obtain ⟨xs, k, hk, hxy, hlen, hxl, hfl⟩ := DataW.trod_struct Tryd.underlying57 h
  rw [cells_op] at hlen
  obtain ⟨v0, v1, v2, v3, v4, v5, v6, v7, v8, v9, v10, v11, v12, v13, v14, v15, v16, v17, v18, v19, rfl⟩ := list_20 hlen
  have hsz : xs.length = 12 := hxl
  have hat : ∀ i, i < 12 → ∃ y, xs[i]? = some y := fun i hi => ⟨_, List.getElem?_eq_getElem (by omega)⟩
  obtain ⟨z0, k0⟩ := hat 0 (by decide)
  obtain ⟨z1, k1⟩ := hat 1 (by decide)
  obtain ⟨z2, k2⟩ := hat 2 (by decide)
  obtain ⟨z3, k3⟩ := hat 3 (by decide)
  obtain ⟨z4, k4⟩ := hat 4 (by decide)
  obtain ⟨z5, k5⟩ := hat 5 (by decide)
  obtain ⟨z6, k6⟩ := hat 6 (by decide)
  obtain ⟨z7, k7⟩ := hat 7 (by decide)
  obtain ⟨z8, k8⟩ := hat 8 (by decide)
  obtain ⟨z9, k9⟩ := hat 9 (by decide)
  obtain ⟨z10, k10⟩ := hat 10 (by decide)
  obtain ⟨z11, k11⟩ := hat 11 (by decide)
  have g0 := (hfl 0 _ rfl).trans k0
  have g1 := (hfl 1 _ rfl).trans k1
  have g2 := (hfl 2 _ rfl).trans k2
  have g3 := (hfl 3 _ rfl).trans k3
  have g4 := (hfl 4 _ rfl).trans k4
  have g5 := (hfl 5 _ rfl).trans k5
  have g6 := (hfl 6 _ rfl).trans k6
  have g7 := (hfl 7 _ rfl).trans k7
  have g8 := (hfl 8 _ rfl).trans k8
  have g9 := (hfl 9 _ rfl).trans k9
  have g10 := (hfl 10 _ rfl).trans k10
  have g11 := (hfl 11 _ rfl).trans k11
  simp [cells_int] at g0
  simp [cells_id] at g1
  simp [cells_int] at g2
  simp [cells_id] at g3
  simp [cells_id] at g4
  simp [cells_str] at g5
  simp [cells_id] at g6
  simp [cells_char] at g7
  simp [cells_char] at g8
  simp [cells_str] at g9
  simp [cells_cuts] at g10
  simp [cells_bool] at g11
  obtain ⟨a0, e0, _⟩ := DataW.trod_int Tryd.underlying3 g0
  obtain ⟨a1, a2, rfl, rfl⟩ := trod_id g1
  obtain ⟨a3, e3, _⟩ := DataW.trod_int Tryd.underlying3 g2
  obtain ⟨a4, a5, rfl, rfl⟩ := trod_id g3
  obtain ⟨a6, a7, rfl, rfl⟩ := trod_id g4
  obtain ⟨a8, e8, _⟩ := DataW.trod_string Tryd.underlying9 g5
  obtain ⟨a9, a10, rfl, rfl⟩ := trod_id g6
  obtain ⟨a11, a12, a13, rfl, rfl, rfl⟩ := trod_char g7
  obtain ⟨a14, a15, a16, rfl, rfl, rfl⟩ := trod_char g8
  obtain ⟨a17, e17, _⟩ := DataW.trod_string Tryd.underlying9 g9
  obtain ⟨l, hl⟩ := trod_cuts g10
  obtain ⟨a19, e19, _⟩ := DataW.trod_bool Tryd.underlying4 g11
  obtain rfl : v0 = _ := by simpa using e0
  obtain rfl : v3 = _ := by simpa using e3
  obtain rfl : v8 = _ := by simpa using e8
  obtain rfl : v17 = _ := by simpa using e17
  obtain rfl : v19 = _ := by simpa using e19
  exact ⟨⟨a0, a1, a2, a3, a4, a5, a6, a7, a8, a9, a10, a11, a12, a13, a14, a15, a16, a17, l, a19⟩, v18, rfl, hl⟩
theorem open_op {b0 : Nat} {v : Value} {d : DataW H} {p : List MemPlace} (hv : Value.okWide Tryd.prog W .any b0 57 v) (h : DataW.Trod enc Tryd.prog W 0 (fun _ => true) held 57 v d p) : ∃ o u, v = opv o u ∧ Cs W u o.cuts := by
  obtain ⟨cs, rfl, hsz⟩ := okWide_struct Tryd.underlying57 hv
  obtain ⟨fuel, hf⟩ := h
  obtain ⟨o, u, e, hc⟩ := trod_op hf
  refine ⟨o, u, ?_, hc⟩
  obtain ⟨l⟩ := cs
  have e' : l = opc (o, u) := by simpa [Value.cells] using e
  rw [e']
theorem open_ops {b0 : Nat} {v : Value} {d : DataW H} {p : List MemPlace} (hv : Value.okWide Tryd.prog W .any b0 31 v) (h : DataW.Trod enc Tryd.prog W 0 (fun _ => true) held 31 v d p) : ∃ l, Os W v l := by
  obtain ⟨a, len, cap, rfl⟩ := okWide_slice Tryd.underlying31 hv
  obtain ⟨fuel, hf⟩ := h
  rcases Go.Deep.open_slice Tryd.underlying31 hf with ⟨hcs, _⟩ | ⟨x, l, c, m, n, D, Pl, hcs, _, hl, hm, hmm, _, hx⟩
  · simp [Value.cells] at hcs
    obtain ⟨rfl, rfl, rfl⟩ := hcs
    exact ⟨[], Sl.nil 20 W, fun p hp => by cases hp⟩
  · simp [Value.cells] at hcs
    obtain ⟨rfl, rfl, rfl⟩ := hcs
    simp at hmm
    subst hmm
    rw [cells_op] at hx
    have each : ∀ i, i < len → ∃ q : Opn × Value, W.cells? 0 (x.add (i * 20)) 20 = some (opc q) ∧ Cs W q.2 q.1.cuts := fun i hi => by
      obtain ⟨cs', h1, h2⟩ := hx i (by omega)
      obtain ⟨o, u, rfl, hc⟩ := trod_op h2
      exact ⟨(o, u), h1, hc⟩
    have hinh : Inhabited (Opn × Value) := ⟨(Opn.zero, .slice none 0 0)⟩
    obtain ⟨q, hq⟩ := Go.Deep.choose_lt each
    refine ⟨(List.range len).map q, ?_, fun p hp => ?_⟩
    · have := Sl.of_rows (sz := 20) (W := W) (x := x) (by decide) hl hm (fun i => opc (q i)) (fun i hi => ⟨rfl, fun j u hu => by
        obtain ⟨_, _, hcell⟩ := World.cells?_some (hq i hi).1
        have hj : j < 20 := (List.getElem?_eq_some_iff.1 hu).1
        have := hcell j hj
        rw [Go.Deep.add_add] at this
        rw [this, hu]⟩)
      rw [List.length_map, List.length_range, List.flatMap_map]
      exact this
    · obtain ⟨i, hi, rfl⟩ := List.mem_map.1 hp
      exact (hq i (List.mem_range.1 hi)).2
theorem open_u8s {b0 : Nat} {v : Value} {d : DataW H} {p : List MemPlace} (hv : Value.okWide Tryd.prog W .any b0 45 v) (h : DataW.Trod enc Tryd.prog W 0 (fun _ => true) held 45 v d p) : ∃ xs, Bs W v xs := by
  obtain ⟨a, len, cap, rfl⟩ := okWide_slice Tryd.underlying45 hv
  obtain ⟨fuel, hf⟩ := h
  rcases open_ints Tryd.underlying45 Tryd.underlying5 (by kernel_rfl) hf with ⟨hcs, _⟩ | ⟨x, l, c, zs, hcs, _, hl, hm, hz, _, hcell, hwz⟩
  · simp [Value.cells] at hcs
    obtain ⟨rfl, rfl, rfl⟩ := hcs
    exact ⟨[], Bs.nil W⟩
  · simp [Value.cells] at hcs
    obtain ⟨rfl, rfl, rfl⟩ := hcs
    exact ⟨zs.take len, Bs.of_row hl hm (by simpa using hz) hcell hwz⟩
theorem open_byte {b0 : Nat} {v : Value} {d : DataW H} {p : List MemPlace} (hv : Value.okWide Tryd.prog W .any b0 5 v) (h : DataW.Trod enc Tryd.prog W 0 (fun _ => true) held 5 v d p) : ∃ x, v = .int .u8 x ∧ 0 ≤ x ∧ x < 256 := by
  obtain ⟨a, rfl, _, _, hw⟩ := open_int Tryd.underlying5 hv h
  refine ⟨a, rfl, ?_⟩
  simp [Lit.wf, IntKind.min, IntKind.max, IntKind.signed, IntKind.bits] at hw
  omega
end

/-- The heap that the program's own text lays meets the list. -/
theorem door_met (os : Go.Os) (args : Array Value) : laidMetH Tryd.prog Rows.oplogKeepsRow.laid ((World.doorLaid Tryd.prog 72 os).forCall (fun _ _ => 0) ⟨#[], args, []⟩).memory := by
  rw [MakeChecks.laidMetH_plain _ _ _ (by kernel_rfl)]
  exact laidMet_of_run' 8 (by kernel_rfl) (by kernel_rfl)

end Go.Proofs.YteckjkblngmenaaDoor

/-
  From a walk to the given statement: what the readings of lists of lists of ops give.
-/
namespace Go.Proofs.YteckjkblngmenaaDoor
open Go.RowKit Go.ChangeShapes Go.WideShapes Go.ChangeAt
set_option linter.unusedVariables false
set_option maxRecDepth 100000

theorem cells_ops : Tryd.prog.cellsOf 31 = 1 := by kernel_rfl
section
variable {H : Type} {enc : TypeId × Value → H} {W : World} {held : Bool}
theorem trod_ops {n : Nat} {v : Value} {x : DataW H × List MemPlace} (h : DataW.trod enc Tryd.prog W 0 (fun _ => true) held n 31 [v] = some x) : ∃ l, Os W v l := by
  rcases Go.Deep.open_slice Tryd.underlying31 h with ⟨hcs, _⟩ | ⟨x, len, c, m, n, D, Pl, hcs, _, hl, hm, hmm, _, hx⟩
  · simp at hcs
    subst hcs
    exact ⟨[], Sl.nil 20 W, fun p hp => by cases hp⟩
  · simp at hcs
    subst hcs
    simp at hmm
    subst hmm
    rw [cells_op] at hx
    have each : ∀ i, i < len → ∃ q : Opn × Value, W.cells? 0 (x.add (i * 20)) 20 = some (opc q) ∧ Cs W q.2 q.1.cuts := fun i hi => by
      obtain ⟨cs', h1, h2⟩ := hx i (by omega)
      obtain ⟨o, u, rfl, hc⟩ := trod_op h2
      exact ⟨(o, u), h1, hc⟩
    have hinh : Inhabited (Opn × Value) := ⟨(Opn.zero, .slice none 0 0)⟩
    obtain ⟨q, hq⟩ := Go.Deep.choose_lt each
    refine ⟨(List.range len).map q, ?_, fun p hp => ?_⟩
    · have := Sl.of_rows (sz := 20) (W := W) (x := x) (by decide) hl hm (fun i => opc (q i)) (fun i hi => ⟨rfl, fun j u hu => by
        obtain ⟨_, _, hcell⟩ := World.cells?_some (hq i hi).1
        have hj : j < 20 := (List.getElem?_eq_some_iff.1 hu).1
        have := hcell j hj
        rw [Go.Deep.add_add] at this
        rw [this, hu]⟩)
      rw [List.length_map, List.length_range, List.flatMap_map]
      exact this
    · obtain ⟨i, hi, rfl⟩ := List.mem_map.1 hp
      exact (hq i (List.mem_range.1 hi)).2
theorem open_opss {b0 : Nat} {v : Value} {d : DataW H} {p : List MemPlace} (hv : Value.okWide Tryd.prog W .any b0 22 v) (h : DataW.Trod enc Tryd.prog W 0 (fun _ => true) held 22 v d p) : ∃ ls, Oss W v ls := by
  obtain ⟨a, len, cap, rfl⟩ := okWide_slice Tryd.underlying22 hv
  obtain ⟨fuel, hf⟩ := h
  rcases Go.Deep.open_slice Tryd.underlying22 hf with ⟨hcs, _⟩ | ⟨x, l, c, m, n, D, Pl, hcs, _, hl, hm, hmm, _, hx⟩
  · simp [Value.cells] at hcs
    obtain ⟨rfl, rfl, rfl⟩ := hcs
    exact ⟨[], [], rfl, Sl.nil 1 W, fun i hi => absurd hi (Nat.not_lt_zero _)⟩
  · simp [Value.cells] at hcs
    obtain ⟨rfl, rfl, rfl⟩ := hcs
    simp at hmm
    subst hmm
    rw [cells_ops] at hx
    have each : ∀ i, i < len → ∃ q : Value × List (Opn × Value), W.cells? 0 (x.add (i * 1)) 1 = some [q.1] ∧ Os W q.1 q.2 := fun i hi => by
      obtain ⟨cs', h1, h2⟩ := hx i (by omega)
      obtain ⟨_, hlen, _⟩ := World.cells?_some h1
      obtain ⟨u, rfl⟩ : ∃ u, cs' = [u] := by
        rcases cs' with _ | ⟨u, _ | ⟨y, r⟩⟩
        · simp at hlen
        · exact ⟨u, rfl⟩
        · simp at hlen
      obtain ⟨l, ho⟩ := trod_ops h2
      exact ⟨(u, l), h1, ho⟩
    have hinh : Inhabited (Value × List (Opn × Value)) := ⟨(.slice none 0 0, [])⟩
    obtain ⟨q, hq⟩ := Go.Deep.choose_lt each
    refine ⟨(List.range len).map (fun i => (q i).2), (List.range len).map (fun i => (q i).1), by simp, ?_, fun i hi hk => ?_⟩
    · have := Sl.of_rows (sz := 1) (W := W) (x := x) (by decide) hl hm (fun i => [(q i).1]) (fun i hi => ⟨rfl, fun j u hu => by
        obtain ⟨_, _, hcell⟩ := World.cells?_some (hq i hi).1
        have hj : j < 1 := (List.getElem?_eq_some_iff.1 hu).1
        have := hcell j hj
        rw [Go.Deep.add_add] at this
        rw [this, hu]⟩)
      rw [List.length_map, List.length_range]
      have e : ∀ n : Nat, (List.range n).map (fun i => (q i).1) = (List.range n).flatMap fun i => [(q i).1] := fun n => by
        rw [List.flatMap_def]
        induction (List.range n) with
        | nil => rfl
        | cons a t ih => simp only [List.map_cons, List.flatten_cons, List.cons_append, List.nil_append, ih]
      rw [e]
      exact this
    · simp only [List.getElem_map, List.getElem_range]
      simp at hi
      exact (hq i hi).2
end
end Go.Proofs.YteckjkblngmenaaDoor
