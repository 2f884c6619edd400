/-
  The law VecAsks answers true for all rows of numbers, every name and every replica, and leaves its input as it was.
-/
import Derived.Test.YtkcjkncpaopjbaaPart9
import Derived.Test.YtkcjkncpaopjbaaPart5
import Derived.Test.YtkcjkncpaopjbaaPart10
namespace Go.Proofs.Ytkcjkncpaopjbaa
open Go.RowKit
set_option linter.unusedVariables false
set_option maxRecDepth 100000

theorem bo_yes (v : Value) (l : List Int) (w : World) (h : Iz w v l) (hok : okV l = true) : Calls Try.prog 10 #[v] w fun e w' =>
    ∃ c d, e = .returned (.tuple #[.pointer (some ⟨c, 0, none⟩), .pointer (some ⟨d, 0, none⟩), .bool true, .bool true]) ∧ w.heap.size ≤ c ∧ c < d ∧ Vc w' c (padV l) ∧ Vc w' d (padV l) ∧ Below w.heap.size w w' :=
  (both_any v l w h).mono fun e w' h => h.elim (fun h => h.2) (fun h => absurd h.1 (by rw [hok]; decide))
theorem bo_flag (v : Value) (l : List Int) (w : World) (h : Iz w v l) : Calls Try.prog 10 #[v] w fun e w' =>
    ∃ P R, e = .returned (.tuple #[P, R, .bool true, .bool (okV l)]) ∧ Below w.heap.size w w' :=
  (both_any v l w h).mono fun e w' h => h.elim (fun ⟨h1, c, d, h2, _, _, _, _, h5⟩ => ⟨_, _, by rw [h1]; exact h2, h5⟩) (fun ⟨h1, h2, h3⟩ => ⟨_, _, by rw [h1]; exact h2, h3⟩)
/-- What the law lays over its own copy of the numbers. -/
def Cov (W : World) (a : Option Addr) (N : Nat) : Prop := 0 < N → ∃ g cur, a = some ⟨g, 0, none⟩ ∧ W.heap[g]? = some (.cells cur 3 (0, 0)) ∧ N ≤ cur.size
theorem Cov.of_own {W : World} {B N c : Nat} {a : Option Addr} {xs : List Value} (h : W.ownsRow B 3 1 (.slice a N c) N xs) : Cov W a N := by
  intro hN
  rcases h.2 with ⟨h1, h2⟩ | ⟨g, cap, cur, h1, hb, hg, hnc, hcm, hcs, _⟩
  · omega
  · simp only [Value.slice.injEq] at h1
    obtain ⟨rfl, _, rfl⟩ := h1
    exact ⟨g, cur, rfl, hg, by omega⟩
theorem Cov.below {W W' : World} {a : Option Addr} {N : Nat} (h : Cov W a N) (hb : Below W.heap.size W W') : Cov W' a N := fun hN => by
  obtain ⟨g, cur, e, hg, hs⟩ := h hN
  exact ⟨g, cur, e, by rw [hb.block g (Array.getElem?_eq_some_iff.1 hg).1]; exact hg, hs⟩
theorem Av.fr {S : Nat → Prop} {W W' : World} {v r x s g : Nat} {A B : List Int} {i m : Int} (h : Av W v r x s g A B i m) (hf : Fr S W W') (n1 : ¬ S v) (n2 : ¬ S r) (n3 : ¬ S x) (n4 : ¬ S s) (n5 : ¬ S g) : Av W' v r x s g A B i m :=
  ⟨h.v.fr hf n1, h.r.fr hf n2, h.x.fr hf n3, h.s.fr hf n4, by obtain ⟨T, e⟩ := h.i; exact ⟨T, by rw [hf.block g (Array.getElem?_eq_some_iff.1 e).1 n5]; exact e⟩⟩
theorem Cov.put {W : World} {g N k : Nat} {v : Value} {cur : Array Value} (hg : W.heap[g]? = some (.cells cur 3 (0, 0))) (hs : N ≤ cur.size) : Cov (W.setCell ⟨g, k, none⟩ v) (some ⟨g, 0, none⟩) N :=
  fun _ => ⟨g, _, rfl, heap_setCell_same W g k _ _ v hg, by simpa using hs⟩

set_option maxHeartbeats 4000000 in
theorem asks_law (v0 : Value) (a : List Int) (v1 : Value) (b : List Int) (i m rp : Int) (w : World) (ha : Iz w v0 a) (hb : Iz w v1 b) (_hrp : (Lit.int .i64 rp).wf = true) :
    Calls Try.prog 3 #[v0, v1, idv i m, .int .i64 rp] w fun e w' => e = .returned (.bool true) ∧ Below w.heap.size w w' := by
  obtain ⟨w0, hw0⟩ : ∃ x, w.alloc (ido 24 i m) = x := ⟨_, rfl⟩
  have HB0 := hid (show Below w.heap.size w w0 by rw [← hw0]; exact ba w _)
  have HI := hid (show Idb w0 w.heap.size i m by rw [← hw0]; exact ⟨_, heap_alloc_new w _⟩)
  have HA := hid (show Iz w0 v0 a from ha.below HB0.out)
  have HB := hid (show Iz w0 v1 b from hb.below HB0.out)
  have f0 := ha.form
  have f1 := hb.form
  obtain ⟨p0, c0, rfl, g0, g1⟩ := f0
  obtain ⟨p1, c1, rfl, g2, g3⟩ := f1
  obtain ⟨N, hN⟩ : ∃ N, a.length = N := ⟨_, rfl⟩
  obtain ⟨M, hM⟩ : ∃ M, b.length = M := ⟨_, rfl⟩
  have HN := hid hN
  have HM := hid hM
  rw [hN] at HA g0 ⊢
  rw [hM] at HB g2 ⊢
  clear ha hb hN hM
  by_cases hsmall : N ≤ 50 ∧ M ≤ 50
  · have s1 : decide ((50 : Int) < (N : Int)) = false := by simp; omega
    have s2 : decide ((50 : Int) < (M : Int)) = false := by simp; omega
    have HSM := hid hsmall
    clear hsmall g0 g1 g2 g3
    by_cases hall : okV a = true ∧ okV b = true
    · obtain ⟨k1, k2⟩ := hall
      have K1 := hid k1
      have K2 := hid k2
      obtain ⟨A, hA⟩ : ∃ A, padV a = A := ⟨_, rfl⟩
      obtain ⟨B, hB⟩ : ∃ B, padV b = B := ⟨_, rfl⟩
      have HAA := hid hA
      have HBB := hid hB
      obtain ⟨ms, hms⟩ : ∃ ms, missTo A B 16 = ms := ⟨_, rfl⟩
      have HMS := hid hms
      obtain ⟨L, hL⟩ : ∃ L, ms.length = L := ⟨_, rfl⟩
      have HL := hid hL
      have hL16 : L ≤ 16 := by rw [← hL, ← hms]; exact miss_len A B 16
      obtain ⟨G, hG⟩ : ∃ G, w.heap.size = G := ⟨_, rfl⟩
      have HG := hid hG
      have HGW := hid (show G < w0.heap.size by rw [← hG, ← hw0]; simp)
      rw [hG] at HI
      have hN50 : N ≤ 50 := HSM.out.1
      clear k1 k2 hA hB hms hL
      go_enter Try.func3, Try.ntmps3
      go_wp2_with (first
        | (go_at_call 8; refine (alive_any w0).mono ?_; rintro e w1 ⟨rfl, hb1⟩; have B1 := hid hb1; have A1 := hid (HA.out.below hb1); have BB1 := hid (HB.out.below hb1); clear hb1)
        | (go_at_call 9; refine (copyints_any _ a _ A1.out (by have := HN.out; have := HSM.out; omega)).mono ?_; rintro e w2 ⟨u, rfl, ho, hb2⟩; rw [HN.out] at ho; obtain ⟨a5, c5, rfl⟩ := own_any ho; have O2 := hid (Iz.of_own ho); have C2 := hid (Cov.of_own ho); have W2 := hid (fun k hk => ho.lt k hk); have B2 := hid (bt B1.out hb2); have A2 := hid (A1.out.below hb2); have BB2 := hid (BB1.out.below hb2); clear ho hb2)
        | (go_at_call 10; have _g := BB3.out; refine (bo_yes _ b _ BB3.out K2.out).mono ?_; rintro e w4 ⟨x, s, rfl, hx, hs, hvx, hvs, hb4⟩; rw [HBB.out] at hvx hvs; have O4 := hid (O3.out.below hb4); have A4 := hid (A3.out.below hb4); have C4 := hid (C3.out.below hb4); have B4 := hid (bt B3.out hb4); have D4 := hid (And.intro (Nat.lt_of_lt_of_le V3.out.2.2.lt hx) hs); have V4 := hid (And.intro (V3.out.1.below hb4) (And.intro (V3.out.2.1.below hb4) (And.intro hvx hvs))); clear hb4 _g hx hs hvx hvs)
        | (go_at_call 10; refine (bo_yes _ a _ O2.out K1.out).mono ?_; rintro e w3 ⟨v, r, rfl, hv, hr, hvv, hvr, hb3⟩; rw [HAA.out] at hvv hvr; have O3 := hid (O2.out.below hb3); have A3 := hid (A2.out.below hb3); have C3 := hid (C2.out.below hb3); have BB3 := hid (BB2.out.below hb3); have B3 := hid (bt B2.out hb3); have D3 := hid (And.intro hv hr); have V3 := hid (And.intro hvv (And.intro hvr hvr)); clear hb3 hv hr hvv hvr)
        | (go_at_call 11; refine (sameints_any _ _ a a _ O4.out A4.out).mono ?_; rintro e w5 ⟨rfl, hb5⟩; rw [decide_eq_true (rfl : a = a)]; have B5 := hid (bt B4.out hb5); have C5 := hid (C4.out.below hb5); have Q5 := hid (Av.below (Av.mk V4.out.1 V4.out.2.1 V4.out.2.2.1 V4.out.2.2.2 (HI.out.below B4.out)) hb5); clear hb5)
        | fail)
      go_loopw [18] (fun kk wr => ∃ k : Nat, k ≤ N ∧ kk = .int .i64 k ∧ Hid (Av wr v r x s G A B i m) ∧ Hid (Cov wr a5 N) ∧ Below w0.heap.size w0 wr) (fun kk _ => N - (intOf kk).toNat)
      case atStart => exact ⟨0, by omega, rfl, Q5.out, C5.out, B5.out⟩
      case round =>
        obtain ⟨k, hk, rfl, HQ, HC, hbel⟩ := hrel
        have HBL := hid hbel
        clear O2 O3 O4 C2 C3 C4 C5 Q5 V3 V4 BB1 BB2 BB3 A1 A2 A3 A4 B3 B4 B5 hbel hw0
        by_cases hlt : k < N
        · have hlt' : (k : Int) < (N : Int) := by omega
          obtain ⟨g, cur, rfl, hg, hsz⟩ := HC.out (by omega)
          have hcell : wr.cell? ⟨g, k, none⟩ = some (cur[k]'(by omega)) := by rw [cell_of_row wr g k _ _ _ hg]; simp
          have hfz := frozen_of_row wr g k _ _ hg
          obtain ⟨z, hz⟩ : ∃ z, cur[k]'(by omega) = z := ⟨_, rfl⟩
          rw [hz] at hcell
          have HG2 := hid hg
          have HSZ := hid hsz
          clear hz hg hsz
          go_wp2_with fail
          go_roundw
          case rel =>
            have hgl := W2.out g rfl
            have hvl := D3.out
            have hxl := D4.out
            have hf := Fr.of_set wr g k (.int .i64 (-7))
            have hwg := B1.out.size
            have hgw := HGW.out
            refine ⟨k + 1, by omega, by go_num, HQ.out.fr hf (by omega) (by omega) (by omega) (by omega) (by omega), Cov.put HG2.out HSZ.out, HBL.out.trans (hf.below (fun j hj e => by omega) HBL.out.size)⟩
          case measure => simp [intOf]; omega
        · obtain rfl : k = N := by omega
          go_wp2_with (first
            | (go_at_call 12; refine (missing_any v x A B _ HQ.out.v HQ.out.x).mono ?_; rintro e w6 ⟨u, rfl, hcs, hb6⟩; rw [HMS.out] at hcs; obtain ⟨a6, c6, rfl, _, _⟩ := hcs.form; rw [HL.out] at hcs ⊢; have K6 := hid hcs; have B6 := hid (HBL.out.trans (hb6.mono HBL.out.size)); have Q6 := hid (HQ.out.below hb6); clear hcs hb6)
            | (go_at_call 13; refine (xmissing_any r s A B _ Q6.out.r Q6.out.s).mono ?_; rintro e w7 ⟨u, rfl, hcs, hb7⟩; rw [HMS.out] at hcs; obtain ⟨a7, c7, rfl, _, _⟩ := hcs.form; rw [HL.out] at hcs ⊢; have K7 := hid hcs; have J7 := hid (K6.out.below hb7); have B7 := hid (B6.out.trans (hb7.mono B6.out.size)); have Q7 := hid (Q6.out.below hb7); clear hcs hb7)
            | fail)
          go_loopw [21] (fun kk wr2 => ∃ k : Nat, k ≤ L ∧ kk = .int .i64 k ∧ Hid (Av wr2 v r x s G A B i m) ∧ Hid (Cs wr2 (.slice a6 L c6) ms) ∧ Hid (Cs wr2 (.slice a7 L c7) ms) ∧ Below w0.heap.size w0 wr2) (fun kk _ => L - (intOf kk).toNat)
          case atStart => exact ⟨0, by omega, rfl, Q7.out, J7.out, K7.out, B7.out⟩
          case round =>
            obtain ⟨k, hk2, rfl, HQ2, HJ2, HK2, hbel2⟩ := hrel
            have HB2 := hid hbel2
            clear Q6 Q7 J7 K6 K7 B6 B7 hbel2
            by_cases hlt : k < L
            · have hlt' : (k : Int) < (L : Int) := by omega
              have hkl : k < ms.length := by rw [HL.out]; exact hlt
              obtain ⟨ct, hct⟩ : ∃ ct, ms[k]? = some ct := ⟨_, List.getElem?_eq_getElem hkl⟩
              obtain ⟨g1, o1, c1', e, _, _, _, _⟩ := HJ2.out.inv (by omega)
              rw [HL.out] at e
              simp only [Value.slice.injEq] at e
              obtain ⟨rfl, _, rfl⟩ := e
              obtain ⟨g2, o2, c2', e, _, _, _, _⟩ := HK2.out.inv (by omega)
              rw [HL.out] at e
              simp only [Value.slice.injEq] at e
              obtain ⟨rfl, _, rfl⟩ := e
              obtain ⟨m0, m1, m2, m3⟩ := Cs.at HJ2.out k ct hct
              obtain ⟨n0, n1, n2, n3⟩ := Cs.at HK2.out k ct hct
              obtain ⟨q0, q1, q2, q3⟩ := ct
              dsimp only at m0 m1 m2 m3 n0 n1 n2 n3
              clear hct hkl
              go_wp2_with (first | go_quiet (fail) | fail)
              go_roundw
              case rel => exact ⟨k + 1, by omega, by go_num, ⟨HQ2.out.v, HQ2.out.r, HQ2.out.x, HQ2.out.s, HQ2.out.i⟩, HJ2.out, HK2.out, below_drewN HB2.out _⟩
              case measure => simp [intOf]; omega
            · obtain rfl : k = L := by omega
              go_wp2_with (first
                | (refine asks_r HQ2.out (fun _ _ _ _ _ h => h) (fun u1 u2 W hb => ?_); have BF := hid (HB2.out.trans ((bt (bd _ 1) hb).mono HB2.out.size)); clear hb)
                | fail)
              go_ret
              exact ⟨rfl, bt HB0.out BF.out⟩
    · have hcase : okV a = false ∨ (okV a = true ∧ okV b = false) := by
        revert hall
        cases okV a <;> cases okV b <;> simp
      clear hall
      rcases hcase with e1 | ⟨e1, e2⟩
      all_goals
        have E1 := hid e1
        try have E2 := hid e2
        try clear e2
        clear e1
        go_enter Try.func3, Try.ntmps3
        go_wp2_with (first
          | (go_at_call 8; refine (alive_any w0).mono ?_; rintro e w1 ⟨rfl, hb1⟩; have B1 := hid hb1; have A1 := hid (HA.out.below hb1); have BB1 := hid (HB.out.below hb1); clear hb1)
          | (go_at_call 9; refine (copyints_any _ a _ A1.out (by have := HN.out; have := HSM.out; omega)).mono ?_; rintro e w2 ⟨u, rfl, ho, hb2⟩; rw [HN.out] at ho; obtain ⟨a5, c5, rfl⟩ := own_any ho; have O2 := hid (Iz.of_own ho); have B2 := hid (bt B1.out hb2); have A2 := hid (A1.out.below hb2); have BB2 := hid (BB1.out.below hb2); clear ho hb2)
          | (go_at_call 10; have _g := BB3.out; refine (bo_flag _ b _ BB3.out).mono ?_; rintro e w4 ⟨P2, R2, rfl, hb4⟩; (first | rw [E2.out] | skip); have O4 := hid (O3.out.below hb4); have A4 := hid (A3.out.below hb4); have B4 := hid (bt B3.out hb4); clear hb4 _g)
          | (go_at_call 10; refine (bo_flag _ a _ O2.out).mono ?_; rintro e w3 ⟨P1, R1, rfl, hb3⟩; rw [E1.out]; have O3 := hid (O2.out.below hb3); have A3 := hid (A2.out.below hb3); have BB3 := hid (BB2.out.below hb3); have B3 := hid (bt B2.out hb3); clear hb3)
          | (go_at_call 11; refine (sameints_any _ _ a a _ O4.out A4.out).mono ?_; rintro e w5 ⟨rfl, hb5⟩; rw [decide_eq_true (rfl : a = a)]; have B5 := hid (bt B4.out hb5); clear hb5)
          | fail)
        go_ret
        exact ⟨rfl, bt HB0.out B5.out⟩
  · have hd : decide ((50 : Int) < (N : Int)) = true ∨ (decide ((50 : Int) < (N : Int)) = false ∧ decide ((50 : Int) < (M : Int)) = true) := by simp; omega
    clear hsmall g0 g1 g2 g3
    rcases hd with e1 | ⟨e1, e2⟩
    all_goals
      go_enter Try.func3, Try.ntmps3
      go_wp2_with (first
        | (go_at_call 8; refine (alive_any w0).mono ?_; rintro e w1 ⟨rfl, hb1⟩; have B1 := hid hb1; clear hb1)
        | fail)
      go_ret
      exact ⟨rfl, bt HB0.out B1.out⟩


namespace vecAsks
open Go.ChangeShapes Go.WideShapes Go.ChangeAt
open Go.ChangeMaps (open_string shut_string)

theorem own : ownKnob Try.prog.godebug = none := by kernel_rfl
theorem laidOut : laidOutB Try.prog = true := by kernel_rfl

set_option maxRecDepth 100000 in
theorem lifted (os : Os) (started : os.Started) (H : Type) (enc : TypeId × Value → H) :
    ReturnsInHanded {} Try.checked os 3 .any (Rows.vecAsksSpec.pre6 enc Try.prog Try.f3 Rows.vecAsksRow.domain false) (Rows.vecAsksSpec.post enc Try.prog Try.f3 false true false false) := by
  refine returnsInHanded_of_change (C := Try.checked) own started (by kernel_rfl) Try.func3
    (ChangeSpec.witness6 (enc := enc) (C := Try.checked) false ⟨#[], #[.slice none 0 0, .slice none 0 0, idv 0 0, .int .i64 0], []⟩ 8 (by kernel_rfl) (by kernel_rfl) (by kernel_rfl) (by kernel_rfl)) ?_
  intro W base args ds gs before hval0 hW hcnd _
  have hval : ∀ (j : Nat) t v, Try.f3.params[j]? = some t → args[j]? = some v → Value.okWide Try.prog W .any base t v := hval0
  have hW' := hW
  obtain ⟨p, q, hA0, hV, rfl, hfz, hnd⟩ := hW
  have hA : DataW.TrodAll enc Try.prog W 0 (fun _ => true) true Try.f3.params.toList args.toList ds p := hA0
  rw [Try.params3] at hA hval
  obtain ⟨v0, vs0, d0, ds0, p0, q0, hargs, rfl, rfl, h0, r0⟩ := trodAll_cons hA
  obtain ⟨v1, vs1, d1, ds1, p1, q1, rfl, rfl, rfl, h1, r1⟩ := trodAll_cons r0
  obtain ⟨v2, vs2, d2, ds2, p2, q2, rfl, rfl, rfl, h2, r2⟩ := trodAll_cons r1
  obtain ⟨v3, vs3, d3, ds3, p3, q3, rfl, rfl, rfl, h3, r3⟩ := trodAll_cons r2
  obtain ⟨rfl, rfl, rfl⟩ := trodAll_nil r3
  obtain rfl : args = #[v0, v1, v2, v3] := by cases args; simp_all
  obtain ⟨rfl, rfl⟩ := trodVars_none hV
  obtain ⟨a0, len0, cap0, rfl⟩ := okWide_slice Try.underlying22 (hval 0 22 v0 rfl rfl)
  have k0 := h0
  have lt0 : ∀ x ∈ p0, x.block < W.heap.size := by obtain ⟨m, hm⟩ := k0; exact DataW.trod_lt m _ _ _ hm
  obtain ⟨z0, w0⟩ := Iz.open h0
  obtain ⟨a1, len1, cap1, rfl⟩ := okWide_slice Try.underlying22 (hval 1 22 v1 rfl rfl)
  have k1 := h1
  have lt1 : ∀ x ∈ p1, x.block < W.heap.size := by obtain ⟨m, hm⟩ := k1; exact DataW.trod_lt m _ _ _ hm
  obtain ⟨z1, w1⟩ := Iz.open h1
  have k2 := h2
  have lt2 : ∀ x ∈ p2, x.block < W.heap.size := by obtain ⟨m, hm⟩ := k2; exact DataW.trod_lt m _ _ _ hm
  obtain ⟨a2, c2, rfl⟩ := open_id (hval 2 24 v2 rfl rfl) h2
  obtain ⟨a3, rfl, rfl, rfl, w3⟩ := open_int Try.underlying3 (hval 3 3 v3 rfl rfl) h3
  clear hA0 hval0
  refine (asks_law _ z0 _ z1 a2 c2 a3 W w0 w1 w3).mono fun e W' ⟨he, bel⟩ => ?_
  subst he
  exact ⟨_, rfl, _, _, _, [], _, [], hW', trodAll_mk1 (shut_bool Try.underlying4 _), (trodAll_cons_mk (Below.trod laidOut (by kernel_rfl) (of_decide_eq_true (by kernel_rfl)) k0 bel lt0) (trodAll_cons_mk (Below.trod laidOut (by kernel_rfl) (of_decide_eq_true (by kernel_rfl)) k1 bel lt1) (trodAll_cons_mk (Below.trod laidOut (by kernel_rfl) (of_decide_eq_true (by kernel_rfl)) k2 bel lt2) (trodAll_cons_mk (shut_int Try.underlying3 w3) trodAll_mk0)))), rfl, bel.frame _, fun h => by cases h⟩

theorem over : Rows.vecAsksRow.holds Try.pinned (OpenSpec.ofChange Rows.vecAsksSpec) :=
  OpenClaim.holds_of_wide 3 Try.f3 rfl rfl rfl rfl rfl rfl rfl ⟨rfl, rfl, rfl, rfl, rfl⟩ rfl rfl rfl rfl rfl (by kernel_rfl) Try.func3 (by kernel_rfl)
    (of_decide_eq_true (by kernel_rfl)) (by unfold Func.isWrapper; first | (rw [if_pos (by decide +kernel)]; kernel_rfl) | (rw [if_neg (by decide +kernel)]; exact ⟨rfl, rfl⟩))
    (fun os started H enc _ => lifted os started H enc)
end vecAsks

/-- THE STATEMENT. -/
theorem vecAsks_holds : Rows.VecAsksSaid := vecAsks.over


end Go.Proofs.Ytkcjkncpaopjbaa
