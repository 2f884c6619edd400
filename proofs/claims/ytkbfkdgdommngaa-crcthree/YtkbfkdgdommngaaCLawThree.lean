/-
  For every three lists of bytes the law CrcThree returns true: the sum of three texts of one length, put against one another, is their sums, put against one another. No condition.
-/
import Derived.Test.YtkbfkdgdommngaaCAlive
import Derived.RegionTactic
import Derived.ChangeAlike
import Derived.ProofKit
import Derived.OpenShut
import Derived.ShutString
import Derived.ChangeOld
import Derived.Below
namespace Go.Proofs.Ytkbfkdgdommngaa
open Go.RowKit
set_option linter.unusedVariables false

theorem zip3_length : ∀ (xs ys zs : List Int), xs.length = ys.length → ys.length = zs.length → (C.zip3 xs ys zs).length = xs.length
  | [], [], [], _, _ => rfl
  | a :: xs, b :: ys, c :: zs, h1, h2 => by
    simp only [C.zip3, List.length_cons]
    rw [zip3_length xs ys zs (by simpa using h1) (by simpa using h2)]
  | [], _ :: _, _, h1, _ => by simp at h1
  | _ :: _, [], _, h1, _ => by simp at h1
  | _, [], _ :: _, _, h2 => by simp at h2
  | _, _ :: _, [], _, h2 => by simp at h2
theorem zip3_at : ∀ (xs ys zs : List Int) (k : Nat), xs.length = ys.length → ys.length = zs.length → k < xs.length → (C.zip3 xs ys zs)[k]? = some (C.x3 (xs.getD k 0) (ys.getD k 0) (zs.getD k 0))
  | [], _, _, k, _, _, h => by simp at h
  | _ :: _, [], _, _, h1, _, _ => by simp at h1
  | _ :: _, _ :: _, [], _, _, h2, _ => by simp at h2
  | a :: xs, b :: ys, c :: zs, 0, h1, h2, h => by simp [C.zip3]
  | a :: xs, b :: ys, c :: zs, k + 1, h1, h2, h => by
    simp only [C.zip3, List.getElem?_cons_succ]
    rw [zip3_at xs ys zs k (by simpa using h1) (by simpa using h2) (by simpa using h)]
    simp
theorem x3_byte (a b c : Int) (ha : 0 ≤ a ∧ a < 256) (hb : 0 ≤ b ∧ b < 256) (hc : 0 ≤ c ∧ c < 256) : 0 ≤ C.x3 a b c ∧ C.x3 a b c < 256 := by
  unfold C.x3
  have h : a.toNat ^^^ b.toNat ^^^ c.toNat < 2 ^ 8 := Nat.xor_lt_two_pow (Nat.xor_lt_two_pow (by omega) (by omega)) (by omega)
  omega
theorem zip3_bytes {xs ys zs : List Int} (ha : C.Bytes xs) (hb : C.Bytes ys) (hc : C.Bytes zs) (h1 : xs.length = ys.length) (h2 : ys.length = zs.length) : C.Bytes (C.zip3 xs ys zs) := by
  intro x hx
  obtain ⟨k, hk, rfl⟩ := List.getElem_of_mem hx
  have h3 := zip3_at xs ys zs k h1 h2 (by rw [zip3_length _ _ _ h1 h2] at hk; exact hk)
  rw [List.getElem?_eq_getElem hk] at h3
  simp only [Option.some.injEq] at h3
  rw [h3]
  exact x3_byte _ _ _ (C.getD_byte ha k) (C.getD_byte hb k) (C.getD_byte hc k)
theorem x3_bits (a b c : Int) (ha : 0 ≤ a ∧ a < 256) (hb : 0 ≤ b ∧ b < 256) (hc : 0 ≤ c ∧ c < 256) : bits .xor .u8 (bits .xor .u8 a b) c = C.x3 a b c := by
  obtain ⟨x, rfl⟩ := Int.eq_ofNat_of_zero_le ha.1
  obtain ⟨y, rfl⟩ := Int.eq_ofNat_of_zero_le hb.1
  obtain ⟨z, rfl⟩ := Int.eq_ofNat_of_zero_le hc.1
  have h : x ^^^ y < 2 ^ 8 := Nat.xor_lt_two_pow (by omega) (by omega)
  rw [xor_u8 x y (by omega) (by omega), xor_u8 (x ^^^ y) z (by omega) (by omega)]
  simp [C.x3]

/-- The row behind k rounds. -/
def row3 (L : List Int) (k : Nat) : List Int := L.take k ++ List.replicate (L.length - k) 0
theorem row3_set {L : List Int} {k : Nat} {x : Int} (h : L[k]? = some x) : (row3 L k).set k x = row3 L (k + 1) := by
  have hk : k < L.length := (List.getElem?_eq_some_iff.1 h).1
  have hx : L[k] = x := (List.getElem?_eq_some_iff.1 h).2
  unfold row3
  rw [List.set_append_right _ _ (by rw [List.length_take]; omega), List.length_take, show k - min k L.length = 0 by omega]
  rw [List.take_succ_eq_append_getElem hk, hx, List.append_assoc]
  congr 1
  rw [show L.length - k = (L.length - (k + 1)) + 1 by omega, List.replicate_succ]
  rfl
theorem row3_at {L : List Int} {k : Nat} (h : k < L.length) : (cs (row3 L k))[k]? = some (.int .u8 0) := by
  unfold row3
  rw [cs, List.getElem?_map, List.getElem?_append_right (by rw [List.length_take]; omega), List.length_take, show k - min k L.length = 0 by omega]
  rw [show L.length - k = (L.length - (k + 1)) + 1 by omega, List.replicate_succ]
  rfl
theorem row3_end (L : List Int) : row3 L L.length = L := by simp [row3]
theorem cs_set (l : List Int) (k : Nat) (x : Int) : (cs l).set k (.int .u8 x) = cs (l.set k x) := by simp [cs, List.map_set]

set_option maxHeartbeats 2000000 in
theorem three_any (va : Value) (xs : List Int) (vb : Value) (ys : List Int) (vc : Value) (zs : List Int) (w : World) (ha : Bs w va xs) (hb : Bs w vb ys) (hc : Bs w vc zs) :
    Calls Try.prog 6 #[va, vb, vc] w fun e w' => e = .returned (.bool true) ∧ Below w.heap.size w w' := by
  have la := ha.len
  have lb := hb.len
  have lc := hc.len
  unfold maxLen at la lb lc
  have HA := hid ha
  have HB := hid hb
  have HC := hid hc
  have hva : ∃ a c, va = .slice a xs.length c := by
    obtain ⟨a, c, e, _⟩ := ha
    exact ⟨a, c, e⟩
  have hvb : ∃ a c, vb = .slice a ys.length c := by
    obtain ⟨a, c, e, _⟩ := hb
    exact ⟨a, c, e⟩
  have hvc : ∃ a c, vc = .slice a zs.length c := by
    obtain ⟨a, c, e, _⟩ := hc
    exact ⟨a, c, e⟩
  obtain ⟨aa, ca, rfl⟩ := hva
  obtain ⟨ab, cb, rfl⟩ := hvb
  obtain ⟨ac, cc, rfl⟩ := hvc
  clear ha hb hc
  by_cases h3 : 3000 < xs.length
  · go_enter Try.func6, Try.ntmps6
    go_wp2_with fail
    refine (alive_any _).mono ?_
    rintro e w1 ⟨rfl, b1⟩
    go_wp2
    go_ret
    exact ⟨rfl, b1⟩
  · have h3' : decide (3000 < (xs.length : Int)) = false := by simp; omega
    by_cases hab : xs.length = ys.length
    · by_cases hbc : ys.length = zs.length
      · have hL := hid (zip3_length xs ys zs hab hbc)
        have hAt := hid (fun k h => zip3_at xs ys zs k hab hbc h)
        have hSum := hid (C.sum_x3 xs ys zs hab hbc)
        have hBy := hid (zip3_bytes HA.out.range HB.out.range HC.out.range hab hbc)
        obtain ⟨L, hLe⟩ : ∃ L, C.zip3 xs ys zs = L := ⟨_, rfl⟩
        rw [hLe] at hL hAt hSum hBy
        clear hLe
        obtain ⟨n, hn⟩ : ∃ n, xs.length = n := ⟨_, rfl⟩
        have hn2 : ys.length = n := by omega
        have hn3 : zs.length = n := by omega
        rw [hn] at la h3 h3' HA hL hAt
        rw [hn2] at lb HB
        rw [hn3] at lc HC
        rw [hn, hn2, hn3]
        have HN1 := hid hn
        have HN2 := hid hn2
        have HN3 := hid hn3
        clear hn hn2 hn3 hab hbc
        have hnn : ((n : Int) != (n : Int)) = false := by simp
        obtain ⟨i0, hi, hz0, hz1, hz2⟩ := info_parts info_u8
        have hnb : i0.bytes * n ≤ 281474976710656 := by rw [hz2]; omega
        have hnm : n ≤ maxLen := by unfold maxLen; omega
        go_enter Try.func6, Try.ntmps6
        go_wp2_with fail
        refine (alive_any _).mono ?_
        rintro e w1 ⟨rfl, b1⟩
        go_wp2_with (at_make; refine wpList_make_full _ rfl (.tmp 29) (.tmp 29) 22 rfl w.heap.size 5 i0 (.int .u8 0) 1 Try.underlying22 hi hz0 hz1 .i64 .i64 _ _ n rfl rfl (by simp) (by simp) hnb hnm b1.size ?_; intro w2 hown hgrow)
        have b2 : Below w.heap.size w w2 := b1.grown hgrow b1.size (by intro k hk; cases hk)
        have hrow : w2.ownsRow w.heap.size 5 1 (.slice (some ⟨w1.heap.size, 0, none⟩) n n) n (cs (row3 L 0)) := by
          have e : (madeCells #[Value.int .u8 0] (n * 1)).toList = cs (row3 L 0) := by simp [toList_madeCells_one, row3, hL.out]
          rw [← e]; exact hown
        have hgw := b1.size
        clear hown hgrow hnb hnm b1
        obtain ⟨g, hg⟩ : ∃ g, w1.heap.size = g := ⟨_, rfl⟩
        rw [hg] at hrow hgw ⊢
        clear hg
        go_loopw [8] (fun i wr => ∃ k : Nat, k ≤ n ∧ i = .int .i64 k ∧ wr.ownsRow w.heap.size 5 1 (.slice (some ⟨g, 0, none⟩) n n) n (cs (row3 L k)) ∧ Below w.heap.size w wr) (fun i _ => n - (intOf i).toNat)
        case atStart => exact ⟨0, Nat.zero_le _, rfl, hrow, b2⟩
        case round =>
          clear hrow b2
          obtain ⟨k, hk, rfl, hrow, bel⟩ := hrel
          by_cases hlt : k < n
          · have hlt' : (k : Int) < (n : Int) := by omega
            obtain ⟨ba', oa, ca', e1, _, _, hca⟩ := (HA.out.below bel).inv (by rw [HN1.out]; omega)
            obtain ⟨bb', ob, cb', e2, _, _, hcb⟩ := (HB.out.below bel).inv (by rw [HN2.out]; omega)
            obtain ⟨bc', oc, cc', e3, _, _, hcc⟩ := (HC.out.below bel).inv (by rw [HN3.out]; omega)
            simp only [Value.slice.injEq] at e1 e2 e3
            obtain ⟨rfl, -, rfl⟩ := e1
            obtain ⟨rfl, -, rfl⟩ := e2
            obtain ⟨rfl, -, rfl⟩ := e3
            have ga := hca k (by rw [HN1.out]; exact hlt)
            have gb := hcb k (by rw [HN2.out]; exact hlt)
            have gc := hcc k (by rw [HN3.out]; exact hlt)
            clear hca hcb hcc
            have hx := x3_bits (xs.getD k 0) (ys.getD k 0) (zs.getD k 0) (C.getD_byte HA.out.range k) (C.getD_byte HB.out.range k) (C.getD_byte HC.out.range k)
            have hat := hAt.out k hlt
            obtain ⟨xa, hxa⟩ : ∃ x, xs.getD k 0 = x := ⟨_, rfl⟩
            obtain ⟨xb, hxb⟩ : ∃ x, ys.getD k 0 = x := ⟨_, rfl⟩
            obtain ⟨xc, hxc⟩ : ∃ x, zs.getD k 0 = x := ⟨_, rfl⟩
            rw [hxa, hxb, hxc] at hat hx
            rw [hxa] at ga
            rw [hxb] at gb
            rw [hxc] at gc
            clear hxa hxb hxc
            have hcell : wr.cell? ⟨g, k, none⟩ = some (.int .u8 0) := by rw [hrow.cellAt k (by omega)]; exact row3_at (by rw [hL.out]; exact hlt)
            have hfz := hrow.frozenAt k
            have hst := hid (hrow.stored k (.int .u8 (C.x3 xa xb xc)))
            have HAt := hid hat
            clear hat
            go_wp2
            go_region
            go_wp2
            go_roundw
            case rel =>
              refine ⟨k + 1, by omega, by go_num, ?_, (bel.setCell hgw _).drew⟩
              have hs := hst.out.1
              rw [cs_set, row3_set HAt.out] at hs
              exact hs
            case measure => simp [intOf]; omega
          · obtain rfl : k = n := by omega
            have e1 : row3 L k = L := by have := row3_end L; rw [hL.out] at this; exact this
            rw [e1] at hrow
            have hD := Bs.of_own hrow hBy.out
            have la' := C.sum_lt HA.out.range
            have lb' := C.sum_lt HB.out.range
            have lc' := C.sum_lt HC.out.range
            have hA2 := hid (HA.out.below bel)
            have hB2 := hid (HB.out.below bel)
            have hC2 := hid (HC.out.below bel)
            clear hrow HA HB HC hBy
            go_wp2_with fail
            refine (sum_any _ L _ hD).mono ?_
            rintro e w3 ⟨rfl, b3⟩
            go_wp2_with fail
            refine (sum_any _ xs _ (hA2.out.below b3)).mono ?_
            rintro e w4 ⟨rfl, b4⟩
            go_wp2_with fail
            refine (sum_any _ ys _ (hB2.out.below (bt b3 b4))).mono ?_
            rintro e w5 ⟨rfl, b5⟩
            have hx1 := xor_i64 (C.sum xs) (C.sum ys) la' lb'
            have hx2 := xor_i64 (C.sum xs ^^^ C.sum ys) (C.sum zs) (C.xor_lt la' lb') lc'
            rw [← hSum.out] at hx2
            obtain ⟨sd, hsd⟩ : ∃ s, C.sum L = s := ⟨_, rfl⟩
            obtain ⟨sa, hsa⟩ : ∃ s, C.sum xs = s := ⟨_, rfl⟩
            obtain ⟨sb, hsb⟩ : ∃ s, C.sum ys = s := ⟨_, rfl⟩
            obtain ⟨sab, hsab⟩ : ∃ s, sa ^^^ sb = s := ⟨_, rfl⟩
            rw [hsa, hsb, hsab] at hx1
            rw [hsa, hsb, hsab, hsd] at hx2
            rw [hsd, hsa, hsb]
            have bAll : Below w.heap.size w w5 := bt bel (bt b3 (bt b4 b5))
            have hC5 := hid (hC2.out.below (bt b3 (bt b4 b5)))
            clear hsd hsa hsb hsab hSum la' lb' lc' hD b3 b4 b5 bel hA2 hB2 hC2
            go_wp2_with fail
            refine (sum_any _ zs _ hC5.out).mono ?_
            rintro e w6 ⟨rfl, b6⟩
            go_wp2
            go_ret
            exact ⟨rfl, bt bAll b6⟩
      · have hnn : ((xs.length : Int) != (ys.length : Int)) = false := by simp; omega
        have hne : ((ys.length : Int) != (zs.length : Int)) = true := by simp; omega
        have HX := hid hab
        clear hab hbc
        go_enter Try.func6, Try.ntmps6
        go_wp2_with fail
        refine (alive_any _).mono ?_
        rintro e w1 ⟨rfl, b1⟩
        go_wp2
        go_ret
        exact ⟨rfl, b1⟩
    · have hne : ((xs.length : Int) != (ys.length : Int)) = true := by simp; omega
      go_enter Try.func6, Try.ntmps6
      go_wp2_with fail
      refine (alive_any _).mono ?_
      rintro e w1 ⟨rfl, b1⟩
      go_wp2
      go_ret
      exact ⟨rfl, b1⟩


namespace crcThree
open Go.ChangeShapes Go.WideShapes Go.ChangeAt
open Go.ChangeMaps (open_string shut_string)

theorem own : ownKnob Try.prog.godebug = none := by kernel_rfl
theorem laidOut : laidOutB Try.prog = true := by kernel_rfl

set_option maxRecDepth 100000 in
theorem lifted (os : Os) (started : os.Started) (H : Type) (enc : TypeId × Value → H) :
    ReturnsInHanded {} Try.checked os 6 .any (Rows.crcThreeSpec.pre6 enc Try.prog Try.f6 Rows.crcThreeRow.domain false) (Rows.crcThreeSpec.post enc Try.prog Try.f6 false true false false) := by
  refine returnsInHanded_of_change (C := Try.checked) own started (by kernel_rfl) Try.func6
    (ChangeSpec.witness6 (enc := enc) (C := Try.checked) false ⟨#[], #[.slice none 0 0, .slice none 0 0, .slice none 0 0], []⟩ 8 (by kernel_rfl) (by kernel_rfl) (by kernel_rfl) (by kernel_rfl)) ?_
  intro W base args ds gs before hval0 hW hcnd _
  have hval : ∀ (j : Nat) t v, Try.f6.params[j]? = some t → args[j]? = some v → Value.okWide Try.prog W .any base t v := hval0
  have hW' := hW
  obtain ⟨p, q, hA0, hV, rfl, hfz, hnd⟩ := hW
  have hA : DataW.TrodAll enc Try.prog W 0 (fun _ => true) true Try.f6.params.toList args.toList ds p := hA0
  rw [Try.params6] at hA hval
  obtain ⟨v0, vs0, d0, ds0, p0, q0, hargs, rfl, rfl, h0, r0⟩ := trodAll_cons hA
  obtain ⟨v1, vs1, d1, ds1, p1, q1, rfl, rfl, rfl, h1, r1⟩ := trodAll_cons r0
  obtain ⟨v2, vs2, d2, ds2, p2, q2, rfl, rfl, rfl, h2, r2⟩ := trodAll_cons r1
  obtain ⟨rfl, rfl, rfl⟩ := trodAll_nil r2
  obtain rfl : args = #[v0, v1, v2] := by cases args; simp_all
  obtain ⟨rfl, rfl⟩ := trodVars_none hV
  obtain ⟨a0, len0, cap0, rfl⟩ := okWide_slice Try.underlying22 (hval 0 22 v0 rfl rfl)
  have k0 := h0
  have lt0 : ∀ x ∈ p0, x.block < W.heap.size := by obtain ⟨m, hm⟩ := k0; exact DataW.trod_lt m _ _ _ hm
  obtain ⟨z0, w0⟩ : ∃ xs, Bs W (.slice a0 len0 cap0) xs := by
    obtain ⟨fuel, hf⟩ := h0
    rcases open_ints Try.underlying22 Try.underlying5 (by kernel_rfl) hf with ⟨hcs, _⟩ | ⟨x, l, c, zs, hcs, _, hl, hm, hz, _, hcell, hwz⟩
    · simp [Value.cells] at hcs
      obtain ⟨rfl, rfl, rfl⟩ := hcs
      exact ⟨[], Bs.nil W⟩
    · simp [Value.cells] at hcs
      obtain ⟨rfl, rfl, rfl⟩ := hcs
      exact ⟨zs.take len0, Bs.of_row hl hm (by simpa using hz) hcell hwz⟩
  obtain ⟨a1, len1, cap1, rfl⟩ := okWide_slice Try.underlying22 (hval 1 22 v1 rfl rfl)
  have k1 := h1
  have lt1 : ∀ x ∈ p1, x.block < W.heap.size := by obtain ⟨m, hm⟩ := k1; exact DataW.trod_lt m _ _ _ hm
  obtain ⟨z1, w1⟩ : ∃ xs, Bs W (.slice a1 len1 cap1) xs := by
    obtain ⟨fuel, hf⟩ := h1
    rcases open_ints Try.underlying22 Try.underlying5 (by kernel_rfl) hf with ⟨hcs, _⟩ | ⟨x, l, c, zs, hcs, _, hl, hm, hz, _, hcell, hwz⟩
    · simp [Value.cells] at hcs
      obtain ⟨rfl, rfl, rfl⟩ := hcs
      exact ⟨[], Bs.nil W⟩
    · simp [Value.cells] at hcs
      obtain ⟨rfl, rfl, rfl⟩ := hcs
      exact ⟨zs.take len1, Bs.of_row hl hm (by simpa using hz) hcell hwz⟩
  obtain ⟨a2, len2, cap2, rfl⟩ := okWide_slice Try.underlying22 (hval 2 22 v2 rfl rfl)
  have k2 := h2
  have lt2 : ∀ x ∈ p2, x.block < W.heap.size := by obtain ⟨m, hm⟩ := k2; exact DataW.trod_lt m _ _ _ hm
  obtain ⟨z2, w2⟩ : ∃ xs, Bs W (.slice a2 len2 cap2) xs := by
    obtain ⟨fuel, hf⟩ := h2
    rcases open_ints Try.underlying22 Try.underlying5 (by kernel_rfl) hf with ⟨hcs, _⟩ | ⟨x, l, c, zs, hcs, _, hl, hm, hz, _, hcell, hwz⟩
    · simp [Value.cells] at hcs
      obtain ⟨rfl, rfl, rfl⟩ := hcs
      exact ⟨[], Bs.nil W⟩
    · simp [Value.cells] at hcs
      obtain ⟨rfl, rfl, rfl⟩ := hcs
      exact ⟨zs.take len2, Bs.of_row hl hm (by simpa using hz) hcell hwz⟩
  clear hA0 hval0
  refine (three_any _ z0 _ z1 _ z2 W w0 w1 w2).mono fun e W' ⟨he, bel⟩ => ?_
  subst he
  exact ⟨_, rfl, _, _, _, [], _, [], hW', trodAll_mk1 (shut_bool Try.underlying4 _), (trodAll_cons_mk (Below.trod laidOut (by kernel_rfl) (of_decide_eq_true (by kernel_rfl)) k0 bel lt0) (trodAll_cons_mk (Below.trod laidOut (by kernel_rfl) (of_decide_eq_true (by kernel_rfl)) k1 bel lt1) (trodAll_cons_mk (Below.trod laidOut (by kernel_rfl) (of_decide_eq_true (by kernel_rfl)) k2 bel lt2) trodAll_mk0))), rfl, bel.frame _, fun h => by cases h⟩

theorem over : Rows.crcThreeRow.holds Try.pinned (OpenSpec.ofChange Rows.crcThreeSpec) :=
  OpenClaim.holds_of_wide 6 Try.f6 rfl rfl rfl rfl rfl rfl rfl ⟨rfl, rfl, rfl, rfl, rfl⟩ rfl rfl rfl rfl rfl (by kernel_rfl) Try.func6 (by kernel_rfl)
    (of_decide_eq_true (by kernel_rfl)) (by unfold Func.isWrapper; first | (rw [if_pos (by decide +kernel)]; kernel_rfl) | (rw [if_neg (by decide +kernel)]; exact ⟨rfl, rfl⟩))
    (fun os started H enc _ => lifted os started H enc)
end crcThree

/-- THE STATEMENT. -/
theorem crcThree_holds : Rows.CrcThreeSaid := crcThree.over


end Go.Proofs.Ytkbfkdgdommngaa
