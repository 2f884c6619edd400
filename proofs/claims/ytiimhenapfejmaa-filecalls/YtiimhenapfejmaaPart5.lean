/-
  That FileCalls returns true is proved here, for all rooms and rows of calls (whose bytes are less than 2^47 each).
-/
import Derived.Test.YtiimhenapfejmaaPart2
import Derived.Test.YtiimhenapfejmaaPart3
import Derived.Test.YtiimhenapfejmaaPart4
import Derived.Deep.CutRange
import Derived.Deep.CutBlock
namespace Go.Proofs.Ytiimhenapfejmaa
open Go.RowKit
set_option linter.unusedVariables false
set_option maxRecDepth 100000

set_option maxHeartbeats 8000000 in
theorem calls_walk (room : Int) (v : Value) (qs : List Cal) (w : World) (h0 : (Lit.int .i64 room).wf = true) (h1 : Dl w v qs ∧ ∀ q ∈ qs, q.2.2.length ≤ 140737488355328) :
    Calls Try.prog 3 #[.int .i64 room, v] w fun e w' => e = .returned (.bool true) ∧ Below w.heap.size w w' := by
  obtain ⟨hd, hx⟩ := h1
  have l1 := hd.len
  unfold maxLen at l1
  have HD := hid hd
  have HX := hid hx
  obtain ⟨va, vc, rfl⟩ := hd.form
  obtain ⟨N, hN⟩ : ∃ N, qs.length = N := ⟨_, rfl⟩
  have HN := hid hN
  rw [hN] at HD l1 ⊢
  clear hd hx hN h0
  go_enter Try.func3, Try.ntmps3
  go_wp2_with fail
  refine (alive_any w).mono ?_
  rintro e w1 ⟨rfl, b1⟩
  have B1 := hid b1
  clear b1
  go_wp2_with fail
  refine (great_any _ qs w1 (HD.out.below B1.out) HX.out).mono ?_
  rintro e w2 ⟨⟨r, rfl⟩, rfl⟩
  cases r with
  | true =>
    go_wp2
    go_ret
    exact ⟨rfl, B1.out⟩
  | false =>
    go_wp2_with fail
    by_cases hr : room < 0 ∨ 1048576 < room
    · refine (new_bad room hr).mono ?_
      rintro e w3 ⟨rfl, rfl⟩
      go_wp2_with fail
      refine (rnew_bad room hr).mono ?_
      rintro e w3 ⟨rfl, rfl⟩
      clear hr
      go_wp2
      by_cases hlt : 0 < N
      · have hlt' : (0 : Int) < (N : Int) := by omega
        refine wp_loop_rounds 1 ?_
        rw [rounds_succ]
        go_wp2
        go_ret
        exact ⟨rfl, B1.out⟩
      · have hlt' : decide ((0 : Int) < (N : Int)) = false := by simp; omega
        refine wp_loop_rounds 1 ?_
        rw [rounds_succ]
        go_wp2
        go_ret
        exact ⟨rfl, B1.out⟩
    · obtain ⟨R, rfl⟩ : ∃ R : Nat, room = R := ⟨room.toNat, by omega⟩
      have hR : R ≤ 1048576 := by omega
      refine (new_ok R hR).mono ?_
      rintro e w3 ⟨rfl, b3, v3, f3⟩
      obtain ⟨b, hb⟩ : ∃ b, w1.heap.size = b := ⟨_, rfl⟩
      rw [hb] at b3 f3 ⊢
      have hwb : w.heap.size ≤ b := by rw [← hb]; exact B1.out.size
      have HB := hid hb
      have B3 := hid b3
      have F3 := hid f3
      have hb3 : b < w3.heap.size := f3.lt
      clear hr hb b3 f3
      go_wp2_with fail
      refine (rnew_ok R hR).mono ?_
      rintro e w4 ⟨rfl, b4, f4⟩
      obtain ⟨c, hc⟩ : ∃ c, w3.heap.size = c := ⟨_, rfl⟩
      rw [hc] at b4 f4 hb3 ⊢
      have B4 := hid (B3.out.trans (b4.mono (by omega)))
      have F4 := hid (F3.out.below (by rw [hc]; exact b4))
      have E4 := hid f4
      clear b4 f4
      go_wp2
      go_loopw [9] (fun i wr => ∃ (k : Nat) (v s l : Value) (xs ys : List Int), k ≤ N ∧ i = .int .i64 k ∧ Fi b wr b v (xs ++ ys) xs.length R ∧ Re b wr c s l xs ys R ∧ Ap v s l ∧ Below b w1 wr) (fun i _ => N - (intOf i).toNat)
      case atStart =>
        refine ⟨0, v3, _, _, [], [], Nat.zero_le _, rfl, F4.out, ⟨E4.out.blk, by omega, Ow.nil _ _, Ow.nil _ _, Byt.nil, Byt.nil, (fun k hk => by cases hk), ⟨Nat.zero_le _, Nat.zero_le _⟩, hR⟩, fun k hk => ⟨by simp [Value.ownBlock], by simp [Value.ownBlock]⟩, B4.out⟩
      case round =>
        obtain ⟨k, v', s, l, xs, ys, hk, rfl, f, ee, ap, bw⟩ := hrel
        have F := hid f
        have EE := hid ee
        have AP := hid ap
        have BW := hid bw
        have hbw : b < wr.heap.size := f.lt
        have hcw : c < wr.heap.size := ee.lt
        have hsum : xs.length + ys.length ≤ R := by have := f.nums.2.1; rw [List.length_append] at this; exact this
        have HSUM := hid hsum
        clear f ee ap bw hsum
        by_cases hlt : k < N
        · have hlt' : (k : Int) < (N : Int) := by omega
          have hbel : Below w.heap.size w wr := B1.out.trans (BW.out.mono hwb)
          obtain ⟨b0, off, c0, e0, hc'⟩ := HD.out.inv (by rw [HN.out]; omega)
          rw [HN.out] at hc'
          simp only [Value.slice.injEq] at e0
          obtain ⟨rfl, -, rfl⟩ := e0
          obtain ⟨u, g0w, g1w, g2w, g3w⟩ := hc' k hlt
          have hlm : (qs.getD k cal0).2.2.length ≤ 140737488355328 := by
            have hk' : k < qs.length := by rw [HN.out]; exact hlt
            rw [List.getD_eq_getElem?_getD, List.getElem?_eq_getElem hk', Option.getD_some]
            exact HX.out _ (List.getElem_mem hk')
          obtain ⟨q, hq⟩ : ∃ q, qs.getD k cal0 = q := ⟨_, rfl⟩
          rw [hq] at g0w g1w g3w hlm
          obtain ⟨q1, q2, us⟩ := q
          simp only at g0w g1w g3w hlm
          have g0 : wr.cell? ⟨b0, off + k * 3, none⟩ = some (.int .i64 q1) := by rw [hbel.cell (World.block_lt_of_cell? _ _ g0w)]; exact g0w
          have g1 : wr.cell? ⟨b0, off + k * 3 + 1, none⟩ = some (.int .i64 q2) := by rw [hbel.cell (World.block_lt_of_cell? _ _ g1w)]; exact g1w
          have g2 : wr.cell? ⟨b0, off + k * 3 + 2, none⟩ = some u := by rw [hbel.cell (World.block_lt_of_cell? _ _ g2w)]; exact g2w
          have G3 := hid g3w
          have BEL := hid hbel
          obtain ⟨ua, uc, rfl⟩ := g3w.form
          obtain ⟨M, hM⟩ : ∃ M, us.length = M := ⟨_, rfl⟩
          have HM := hid hM
          rw [hM] at hlm g2 G3
          clear hq hc' g0w g1w g2w g3w hbel hM
          go_wp2_with fail
          have B5 := hid (ba wr (.cells #[.int .i64 q1, .int .i64 q2, .slice ua M uc] 34))
          have HS5 : Hid ((wr.alloc (.cells #[.int .i64 q1, .int .i64 q2, .slice ua M uc] 34)).heap.size = wr.heap.size + 1) := by show _ = _; simp
          have H5 := hid (heap_alloc_new wr (.cells #[.int .i64 q1, .int .i64 q2, .slice ua M uc] 34 (0, 0)))
          generalize (wr.alloc (.cells #[.int .i64 q1, .int .i64 q2, .slice ua M uc] 34)) = w5 at B5 HS5 H5 ⊢
          have U5 := hid (G3.out.below (BEL.out.trans (B5.out.mono BEL.out.size)))
          have x0 := cell_of_row w5 _ 0 _ _ _ H5.out
          have x1 := cell_of_row w5 _ 1 _ _ _ H5.out
          have x2 := cell_of_row w5 _ 2 _ _ _ H5.out
          simp only [List.getElem?_toArray, List.getElem?_cons_zero, List.getElem?_cons_succ] at x0 x1 x2
          have hlt5 : wr.heap.size < w5.heap.size := by rw [HS5.out]; exact Nat.lt_succ_self _
          go_cut [11] from 39 to 153 (fun p wx => Cp wr q1 q2 (.slice ua M uc) M us p wx)
          case first =>
            refine region_a (wr := wr) rfl B5.out hlt5 H5.out U5.out HM.out hlm (fun _ _ _ _ _ h => h) (fun pv s63 s64 W hcp => ?_)
            have HCP := hid hcp
            clear hcp
            go_wp2_with fail
            go_meet
            exact HCP.out
          case rest =>
            obtain ⟨pb, g, cap, rfl, hp1, hp2, hp3, hcap, q10, q11, o6, b6⟩ := hcut
            have HT := hid (alike_do R (q1, q2, us) xs ys)
            have hpl : pb < wc.heap.size := (Array.getElem?_eq_some_iff.1 q11).1
            have hgl := (o6.lt g rfl).2
            have hsz6 := b6.size
            have F6 := hid (F.out.below b6)
            have E6 := hid (EE.out.below b6)
            have BW6 := hid (BW.out.trans (b6.mono (by omega)))
            have Q10 := hid q10
            have Q11 := hid q11
            have O6 := hid o6
            have U6 : Hid (Bs wc (.slice (some ⟨g, 0, none⟩) M cap) us) := by
              have := Bs.of_own o6 G3.out.range
              exact this
            have x0 := cell_of_row wc _ 0 _ _ _ q11
            have x1 := cell_of_row wc _ 1 _ _ _ q11
            have x2 := cell_of_row wc _ 2 _ _ _ q11
            simp only [List.getElem?_toArray, List.getElem?_cons_zero, List.getElem?_cons_succ] at x0 x1 x2
            clear q10 q11 o6 B5 HS5 H5 U5 hlt5 b6
            go_wp2_with fail
            refine (do_any (by omega) F6.out (by simp) q1 q2 _ us U6.out).mono ?_
            rintro e w7 ⟨he, hf⟩
            obtain ⟨⟨z, zs, n⟩, hr⟩ : ∃ r, doS R (q1, q2, us) (xs ++ ys) xs.length = r := ⟨_, rfl⟩
            obtain rfl := he.out hr
            obtain ⟨v7, f7, x7⟩ := hf.out hr
            rw [hr] at HT
            have s7 := step_own F6.out E6.out (by omega) AP.out x7
            have hk7 : ∀ j, wr.heap.size ≤ j → j < wc.heap.size → w7.heap[j]? = wc.heap[j]? := fun j h1 h2 => x7.block h2 (by omega) (fun e => by have := (F.out.own.lt j e).2; omega)
            have F7 := hid f7
            have E7 := hid s7.1
            have AP7 := hid s7.2
            have BW7 := hid (BW6.out.trans (F6.out.fr x7 (by omega)))
            have hsz7 := x7.size
            have Q10' : Hid (w7.heap[wr.heap.size]? = _) := (hk7 _ (Nat.le_refl _) (by omega)).trans Q10.out
            have Q11' : Hid (w7.heap[pb]? = _) := (hk7 pb (by omega) hpl).trans Q11.out
            have O7 : Hid (w7.ownsRow wr.heap.size 5 1 (.slice (some ⟨g, 0, none⟩) M cap) M (cs us)) := by
              refine ⟨O6.out.1, O6.out.2.imp id ?_⟩
              rintro ⟨g', cap', cur, hv, hg, hh, rr⟩
              simp only [Value.slice.injEq, Option.some.injEq, Addr.mk.injEq] at hv
              obtain ⟨⟨rfl, -⟩, -, rfl⟩ := hv
              exact ⟨g, cap, cur, rfl, hg, (hk7 g (by omega) hgl).trans hh, rr⟩
            have NG7 : Hid (v7.ownBlock ≠ some g) := fun e => by
              rcases x7.2 g e with h | h
              · have := (F.out.own.lt g h).2; omega
              · omega
            have HSL : Hid (∀ j, s.ownBlock = some j ∨ l.ownBlock = some j → j < wr.heap.size) := fun j h => (EE.out.inside (.inr h)).2
            clear he hf hr f7 x7 s7 hk7 x0 x1 x2 F6 E6 BW6 Q10 Q11 O6 U6 AP F EE BW
            have x0 := cell_of_row w7 _ 0 _ _ _ Q10'.out
            have x1 := cell_of_row w7 _ 1 _ _ _ Q10'.out
            have x2 := cell_of_row w7 _ 2 _ _ _ Q10'.out
            simp only [List.getElem?_toArray, List.getElem?_cons_zero, List.getElem?_cons_succ] at x0 x1 x2
            have U7 : Hid (Bs w7 (.slice ua M uc) us) := G3.out.below (B1.out.trans (BW7.out.mono hwb))
            obtain ⟨p, hpp⟩ : ∃ p, rdo R (q1, q2, us) xs ys = p := ⟨_, rfl⟩
            rw [hpp] at HT
            have HPP := hid hpp
            clear hpp
            go_upto_block 2 with fail
            go_cut [13] from 39 to 153 (fun gz wx => gz = .int .i64 p.1 ∧ Ro b c R s l w7 p.2.1 p.2.2 wx)
            case first =>
              by_cases h0 : q1 = 0
              · subst h0
                have hp : p = rapp R us xs ys := by rw [← HPP.out]; unfold rdo; simp
                subst hp
                go_wp2_with fail
                refine (rappend_any (by omega) E7.out _ us U7.out).mono ?_
                rintro e w8 ⟨rfl, hro⟩
                have HRO := hid hro
                clear hro
                go_wp2_with fail
                go_meet
                exact ⟨rfl, HRO.out⟩
              · have h0' : (q1 == 0) = false := by simpa using h0
                by_cases h1 : q1 = 1
                · subst h1
                  have hp : p = (0, xs ++ ys, []) := by rw [← HPP.out]; unfold rdo; simp
                  subst hp
                  go_wp2_with fail
                  refine (rsync_any (by omega) E7.out HSUM.out).mono ?_
                  rintro e w8 ⟨rfl, hro⟩
                  have HRO := hid hro
                  clear hro
                  go_wp2_with fail
                  go_meet
                  exact ⟨rfl, HRO.out⟩
                · have h1' : (q1 == 1) = false := by simpa using h1
                  by_cases h2 : q1 = 2
                  · subst h2
                    have hp : p = rrep R us xs ys := by rw [← HPP.out]; unfold rdo; simp
                    subst hp
                    go_wp2_with fail
                    refine (rreplace_any (by omega) E7.out _ us U7.out).mono ?_
                    rintro e w8 ⟨rfl, hro⟩
                    have HRO := hid hro
                    clear hro
                    go_wp2_with fail
                    go_meet
                    exact ⟨rfl, HRO.out⟩
                  · have h2' : (q1 == 2) = false := by simpa using h2
                    by_cases h3 : q1 = 3
                    · subst h3
                      have hp : p = rtrim q2 xs ys := by rw [← HPP.out]; unfold rdo; simp
                      subst hp
                      go_wp2_with fail
                      refine (rtrim_any E7.out q2).mono ?_
                      rintro e w8 ⟨rfl, hro⟩
                      have HRO := hid hro
                      clear hro
                      go_wp2_with fail
                      go_meet
                      exact ⟨rfl, HRO.out⟩
                    · have h3' : (q1 == 3) = false := by simpa using h3
                      by_cases h4 : q1 = 4
                      · subst h4
                        have hp : p = rcrash q2 xs ys := by rw [← HPP.out]; unfold rdo; simp
                        subst hp
                        go_wp2_with fail
                        refine (rcrash_any (by omega) E7.out HSUM.out q2).mono ?_
                        rintro e w8 ⟨rfl, hro⟩
                        have HRO := hid hro
                        clear hro
                        go_wp2_with fail
                        go_meet
                        exact ⟨rfl, HRO.out⟩
                      · have h4' : (q1 == 4) = false := by simpa using h4
                        have hp : p = (0, xs, ys) := by rw [← HPP.out]; unfold rdo; simp [h0, h1, h2, h3, h4]
                        subst hp
                        go_wp2_with fail
                        go_meet
                        exact ⟨rfl, _, _, E7.out, Rx.refl _ _ _ _⟩
            case rest =>
              obtain ⟨rfl, hro⟩ := hcut
              obtain ⟨w0, rfl⟩ : ∃ w0, w0 = wr := ⟨_, rfl⟩
              obtain ⟨s8, l8, e8, x8⟩ := hro
              obtain ⟨p0, xs8, ys8⟩ := p
              obtain ⟨ha1, ha2, ha3⟩ := HT.out
              simp only at ha1 ha2 ha3 e8 ⊢
              subst ha1
              subst ha2
              subst ha3
              have s8' := step_ref F7.out E7.out (by omega) AP7.out x8
              have F8 := hid s8'.1
              have AP8 := hid s8'.2
              have E8 := hid e8
              have hsz8 := x8.size
              have hk8 : ∀ j, w0.heap.size ≤ j → j < w7.heap.size → wc.heap[j]? = w7.heap[j]? := fun j h1 h2 => x8.fr.block j h2 (by
                rintro (h | h)
                · omega
                · have := HSL.out j h; omega)
              have BW8 := hid (BW7.out.trans (E7.out.fr x8 (by omega)))
              have Q10' : Hid (wc.heap[w0.heap.size]? = _) := (hk8 _ (Nat.le_refl _) (by omega)).trans Q10'.out
              have Q11' : Hid (wc.heap[pb]? = _) := (hk8 pb (by omega) (by omega)).trans Q11'.out
              have O8 : Hid (wc.ownsRow w0.heap.size 5 1 (.slice (some ⟨g, 0, none⟩) M cap) M (cs us)) := by
                refine ⟨O7.out.1, O7.out.2.imp id ?_⟩
                rintro ⟨g', cap', cur, hv, hg, hh, rr⟩
                simp only [Value.slice.injEq, Option.some.injEq, Addr.mk.injEq] at hv
                obtain ⟨⟨rfl, -⟩, -, rfl⟩ := hv
                exact ⟨g, cap, cur, rfl, hg, (hk8 g (by omega) (by omega)).trans hh, rr⟩
              have NS8 : Hid (s8.ownBlock ≠ some g) := fun e => by
                rcases x8.new g (.inl e) with h | h | h
                · have := HSL.out g (.inl h); omega
                · have := HSL.out g (.inr h); omega
                · omega
              have NL8 : Hid (l8.ownBlock ≠ some g) := fun e => by
                rcases x8.new g (.inr e) with h | h | h
                · have := HSL.out g (.inl h); omega
                · have := HSL.out g (.inr h); omega
                · omega
              clear x0 x1 x2 e8 x8 s8' hk8 HT HPP F7 E7 AP7 BW7 O7 U7 HSL
              have x2 := cell_of_row wc _ 2 _ _ _ Q10'.out
              have x3 := cell_of_row wc _ 2 _ _ _ Q11'.out
              simp only [List.getElem?_toArray, List.getElem?_cons_zero, List.getElem?_cons_succ] at x2 x3
              have U8 : Hid (Bs wc (.slice (some ⟨g, 0, none⟩) M cap) us) := Bs.of_own O8.out G3.out.range
              have V8 : Hid (Bs wc (.slice ua M uc) us) := G3.out.below (B1.out.trans (BW8.out.mono hwb))
              go_wp2_with fail
              refine (same_any _ _ _ _ wc U8.out V8.out).mono ?_
              rintro e w9 ⟨rfl, m, rfl⟩
              rw [decide_eq_true rfl]
              clear U8 V8 x2
              go_wp2
              go_loopw [14] (fun i wr => ∃ (k2 : Nat) (zs2 : List Int), k2 ≤ M ∧ i = .int .i64 k2 ∧ zs2.length = M ∧ wr.ownsRow w0.heap.size 5 1 (.slice (some ⟨g, 0, none⟩) M cap) M (cs zs2) ∧ wc.grownBy wr (some g)) (fun i _ => M - (intOf i).toNat)
              case atStart => exact ⟨0, us, Nat.zero_le _, rfl, HM.out, O8.out, World.grownBy.drewN (World.grownBy.rfl' _ _) m⟩
              case round =>
                obtain ⟨k2, zs2, hk2, rfl, hzs, hown, hgr⟩ := hrel
                have y3 : wr.cell? ⟨pb, 2, none⟩ = some (.slice (some ⟨g, 0, none⟩) M cap) := (World.cell?_of_block (a := ⟨pb, 2, none⟩) (hgr.block pb (by omega) (by simp only [ne_eq, Option.some.injEq]; omega))).trans x3
                by_cases hlt2 : k2 < M
                · have hcell : wr.cell? ⟨g, k2, none⟩ = some (.int .u8 (zs2.getD k2 0)) := by
                    rw [hown.cellAt k2 (by omega)]
                    simp [cs, show k2 < zs2.length by omega]
                  have hfz := hown.frozenAt k2
                  have HS := hid (hown.stored k2)
                  have hklt : (k2 : Int) < (M : Int) := by omega
                  generalize zs2.getD k2 0 = zz at hcell
                  have HGR := hid hgr
                  have HZS := hid hzs
                  clear hown hgr hzs
                  go_wp2
                  go_roundw
                  case rel =>
                    have hs := HS.out (.int .u8 (bits BinOp.xor IntKind.u8 zz 255))
                    refine ⟨k2 + 1, zs2.set k2 (bits BinOp.xor IntKind.u8 zz 255), by omega, by go_num, by simpa using HZS.out, ?_, World.grownBy.trans HGR.out hs.2⟩
                    have e := hs.1
                    rw [← List.map_set] at e
                    exact e
                  case measure => simp [intOf]; omega
                · have F9 := hid (F8.out.apart hgr (by omega) NG7.out)
                  have E9 := hid (E8.out.apart hgr (by omega) NS8.out NL8.out)
                  have BW9 := hid (BW8.out.grown hgr (by omega) (fun j hj => by simp only [Option.some.injEq] at hj; omega))
                  clear hown hgr hzs
                  have hklt : decide ((k2 : Int) < (M : Int)) = false := by simp; omega
                  go_wp2_with fail
                  refine region_b F9.out E9.out BW9.out (fun _ _ _ _ _ h => h) (fun y1 y2 y3 y4 W hS => ?_)
                  have HS := hid hS
                  clear hS
                  go_wp2_with fail
                  exact ⟨⟨k + 1, v7, s8, l8, xs8, ys8, by omega, by go_num, HS.out.1, HS.out.2.1, AP8.out, HS.out.2.2⟩, by simp [intOf]; omega⟩
        · have hlt' : decide ((k : Int) < (N : Int)) = false := by simp; omega
          go_wp2
          go_ret
          exact ⟨rfl, B1.out.trans (BW.out.mono hwb)⟩
end Go.Proofs.Ytiimhenapfejmaa
