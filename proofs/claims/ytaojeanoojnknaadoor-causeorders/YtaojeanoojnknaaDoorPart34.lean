/-
  CauseOrders returns true for every row of ops and every row of numbers: its walk.
-/
import Derived.Test.YtaojeanoojnknaaDoorPart33
import Derived.Test.YtaojeanoojnknaaDoorPart5
import Derived.Test.YtaojeanoojnknaaDoorPart21
import Derived.Test.YtaojeanoojnknaaDoorPart15
import Derived.Test.YtaojeanoojnknaaDoorPart10
namespace Go.Proofs.YtaojeanoojnknaaDoor
open Go.RowKit
set_option linter.unusedVariables false
set_option maxRecDepth 100000

abbrev seenL (l : List (Opn × Value)) : List Ent := l.map fun p => (ido2 p.1, .int .i64 1)
abbrev idsL (l : List (Opn × Value)) : List (Int × Int) := l.map fun p => ido2 p.1
theorem ids_fst (l : List (Opn × Value)) : (l.map (·.1)).map ido2 = idsL l := by rw [List.map_map]; rfl
theorem Rg9.fr {S : Nat → Prop} {B : Nat} {w w' : World} {g c : Nat} {l : List (Opn × Value)} (h : Rg9 B w g c l) (hf : Fr S w w') (hg : ¬ S g) (hn : ∀ p ∈ l, ∀ k, p.2.ownBlock = some k → ¬ S k) : Rg9 B w' g c l := by
  obtain ⟨cur, hg', r⟩ := h.row
  exact ⟨h.le, ⟨cur, (hf.block g (heap_in hg') hg).trans hg', r⟩, fun p hp => (h.cs p hp).frm hf (hn p hp), h.far⟩
theorem place_of (z : Int) {n : Nat} (hn : 1 < n) : ∃ q p : Nat, bits .and .i64 z 1023 = (q : Int) ∧ ((q : Int)).tmod (n : Int) = (p : Int) ∧ p < n ∧ q < 1024 := by
  refine ⟨(z % 1024).toNat, (z % 1024).toNat % n, ?_, ?_, Nat.mod_lt _ (by omega), by omega⟩
  · rw [and1023]; omega
  · rw [Int.tmod_eq_emod_of_nonneg (by omega)]
    rfl
theorem place_at (j : Nat) {n : Nat} (hn : 1 < n) : ∃ p : Nat, ((j : Int) + 1).tmod (n : Int) = (p : Int) ∧ p < n := by
  refine ⟨(j + 1) % n, ?_, Nat.mod_lt _ (by omega)⟩
  rw [Int.tmod_eq_emod_of_nonneg (by omega)]
  rfl
/-- The row that is mixed. -/
def Mz (w : World) (B n : Nat) (ma : Option Addr) (mc : Nat) (l : List (Opn × Value)) : Prop := (n = 0 ∧ l = [] ∧ Os w (.slice ma n mc) l) ∨ ∃ g, ma = some ⟨g, 0, none⟩ ∧ Rg9 B w g mc l ∧ l.length = n
theorem Mz.os {w : World} {B n : Nat} {ma : Option Addr} {mc : Nat} {l : List (Opn × Value)} (h : Mz w B n ma mc l) : Os w (.slice ma n mc) l := by
  rcases h with ⟨_, _, h⟩ | ⟨g, rfl, h, rfl⟩
  · exact h
  · exact h.os
theorem os_nil {w w' : World} {ma : Option Addr} {mc : Nat} (h : Os w (.slice ma 0 mc) []) : Os w' (.slice ma 0 mc) [] := by
  obtain ⟨⟨h0, a, c, e, h1, h2, h3, _⟩, _⟩ := h
  exact ⟨⟨h0, a, c, e, h1, h2, h3, fun j u hu => by simp at hu⟩, fun p hp => by cases hp⟩
theorem Mz.len {w : World} {B n : Nat} {ma : Option Addr} {mc : Nat} {l : List (Opn × Value)} (h : Mz w B n ma mc l) : l.length = n := by
  rcases h with ⟨rfl, rfl, _⟩ | ⟨g, _, _, h⟩
  · rfl
  · exact h
theorem fresh_at {l : List Opn} (h : (l.map ido2).Nodup) {k : Nat} (hk : k < l.length) : ido2 l[k] ∉ (l.take k).map ido2 := by
  have e : l = l.take k ++ l[k] :: l.drop (k + 1) := by rw [← List.drop_eq_getElem_cons hk, List.take_append_drop]
  obtain ⟨x, hx⟩ : ∃ x, l[k] = x := ⟨_, rfl⟩
  rw [hx] at e ⊢
  rw [e, List.map_append, List.nodup_append] at h
  intro hm
  exact h.2.2 _ hm _ (by simp) rfl
theorem cells_on {w W : World} {b off k : Nat} {o : Opn} {u : Value} (hb : b < w.heap.size) (hc : ∀ j, j < 20 → w.cell? ⟨b, off + k * 20 + j, none⟩ = (opl o u)[j]?) (hW : Below w.heap.size w W) : ∀ j, j < 20 → W.cell? ⟨b, off + k * 20 + j, none⟩ = (opl o u)[j]? :=
  fun j hj => (hW.cell (p := ⟨b, off + k * 20 + j, none⟩) hb).trans (hc j hj)
theorem zero_int (w : World) : (zeroValue 3).run Tryd.prog w = .ok (.int .i64 0) w := by kernel_rfl
/-- Two buffers, side by side, out of four calls. -/
theorem two_new {w x1 x2 x3 x4 : World} {b1 m1 b2 m2 : Nat} (hL : Lay w) (h1 : Bu x1.heap.size x1 b1 m1 []) (hlo1 : w.heap.size ≤ b1 ∧ w.heap.size ≤ m1) (hb1 : Below w.heap.size w x1) (h2 : Bu x2.heap.size x2 b2 m2 []) (hlo2 : x1.heap.size ≤ b2 ∧ x1.heap.size ≤ m2) (hb2 : Below x1.heap.size x1 x2)
    (h3 : Vc x3 x2.heap.size v0) (hb3 : Below x2.heap.size x2 x3) (h4 : Vc x4 x3.heap.size v0) (hb4 : Below x3.heap.size x3 x4) :
    Sx w x4.heap.size b1 m1 x2.heap.size x4 v0 [] ∧ Sx w x4.heap.size b2 m2 x3.heap.size x4 v0 [] ∧ Sep w x4.heap.size b1 m1 x2.heap.size b2 m2 x3.heap.size := by
  have k1 := h1.lt
  have k2 := h2.lt
  have k3 := h3.lt
  have k4 := h4.lt
  have s0 := lay_two hL
  have s1 := hb1.size
  have s2 := hb2.size
  have s3 := hb3.size
  have s4 := hb4.size
  have B4 := bt (bt (bt hb1 hb2) hb3) hb4
  refine ⟨⟨hL.below B4, (h1.below (bt (bt hb2 hb3) hb4)).up (by omega), h3.below hb4, by omega, Nat.le_refl _, B4, by omega⟩, ⟨hL.below B4, (h2.below (bt hb3 hb4)).up (by omega), h4, by omega, Nat.le_refl _, B4, by omega⟩, ⟨by omega, by omega, by omega, by omega⟩⟩

set_option maxHeartbeats 16000000 in
theorem orders_walk (A : Value) (l : List (Opn × Value)) (tv : Value) (zs : List Int) (w : World) (hO : Os w A l) (hZ : Is w tv zs) (hL : Lay w) :
    Calls Tryd.prog 4 #[A, tv] w fun e w' => e = .returned (.bool true) ∧ Below w.heap.size w w' := by
  obtain ⟨a, c, rfl, _, _⟩ := Sl.form hO.1
  obtain ⟨ta, tc, rfl, _, _⟩ := hZ.form
  have HL := hid hL
  have HAL := hid (calive_any w hL)
  obtain ⟨n, hn⟩ : ∃ n, l.length = n := ⟨_, rfl⟩
  obtain ⟨T, hT⟩ : ∃ T, zs.length = T := ⟨_, rfl⟩
  have HN := hid hn
  have HTL := hid hT
  have HO := hid hO
  have HZ := hid hZ
  rw [hn] at HO ⊢
  rw [hT] at HZ ⊢
  have hmm := @run_makeMap Tryd.prog
  clear hO hL hn hZ hT
  go_enter Tryd.func4, Tryd.ntmps4
  go_wp2_with fail
  refine HAL.out.mono ?_
  rintro e w1 ⟨rfl, b1⟩
  have B1 := hid b1
  have HLG := hid (long_all (.slice a n c) l 60 w1 ⟨HO.out.1.below b1, fun p hp => (HO.out.2 p hp).below b1⟩ (by decide))
  cases hlo : longB l 60
  case true =>
    rw [hlo] at HLG
    clear hlo b1
    go_wp2_with fail
    refine HLG.out.mono ?_
    rintro e w2 ⟨rfl, rfl⟩
    go_wp2
    go_ret
    exact ⟨rfl, B1.out⟩
  case false =>
  rw [hlo] at HLG
  have HSM := hid (longB_no hlo)
  have hn60 : n ≤ 60 := by have := HSM.out.1; rw [HN.out] at this; exact this
  clear hlo b1
  cases ht : decide ((100 : Int) < (T : Int))
  case true =>
    go_wp2_with fail
    refine HLG.out.mono ?_
    rintro e w2 ⟨rfl, rfl⟩
    go_wp2
    go_ret
    exact ⟨rfl, B1.out⟩
  case false =>
  have hT100 : T ≤ 100 := by simp at ht; omega
  have HCP := hid (copyops_any (.slice a n c) l (w1.alloc (.map #[] 0)) ⟨HO.out.1.below (bt B1.out (ba w1 _)), fun p hp => (HO.out.2 p hp).below (bt B1.out (ba w1 _))⟩ (fun p hp => by have := (HSM.out.2 p hp).2; omega) (by rw [HN.out]; omega))
  go_wp2_with fail
  refine HLG.out.mono ?_
  rintro e w2 ⟨rfl, rfl⟩
  go_wp2_with fail
  refine HCP.out.mono ?_
  rintro e w3 ⟨mv, rfl, l0, hrw, hfs, hnw, hb3⟩
  have hl0 : l0.length = n := by have := congrArg List.length hfs; unfold fsts at this; simpa [HN.out] using this
  obtain ⟨ma, mc, rfl⟩ := hrw.form
  have HRW := hid hrw
  have HNW := hid hnw
  have HL0 := hid hl0
  have B3 := hid hb3
  have HFS : Hid (l0.map (·.1) = l.map (·.1)) := hid hfs
  rw [hl0] at HRW ⊢
  have HM0 : Hid (Mp w3 w1.heap.size (seenL (l.take 0)) #[] 0) := hid ⟨by rw [hb3.block w1.heap.size (by simp)]; exact heap_alloc_new w1 _, rfl, by simp, fun e he => by simp at he⟩
  have HSZ : Hid (w1.heap.size < (w1.alloc (.map #[] 0)).heap.size ∧ w.heap.size ≤ w1.heap.size) := hid ⟨by simp, B1.out.size⟩
  have B3R : Hid (Below w1.heap.size w1 w3) := hid (bt (ba w1 _) hb3)
  have B13 : Hid (Below w.heap.size w w3) := hid (bt (bt B1.out (ba w1 _)) hb3)
  clear hrw hfs hnw hl0 hb3 ht HCP HLG hmm
  obtain ⟨sm, hsm⟩ : ∃ sm, w1.heap.size = sm := ⟨_, rfl⟩
  rw [hsm] at HM0 HSZ ⊢
  obtain ⟨B2, hB2⟩ : ∃ B2, (w1.alloc (.map #[] 0)).heap.size = B2 := ⟨_, rfl⟩
  rw [hB2] at HSZ HRW HNW
  have HSM1 := hid hsm
  clear hsm hB2 B3
  go_wp2
  go_loopw [7] (fun i wr => ∃ (k : Nat) (es : Array MapEntry) (cl : Nat), i = .int .i64 k ∧ k ≤ n ∧ Mp wr sm (seenL (l.take k)) es cl ∧ (idsL (l.take k)).Nodup ∧ Fr (fun j => j = sm) w3 wr) (fun i _ => n - (intOf i).toNat)
  case atStart => exact ⟨0, #[], 0, rfl, Nat.zero_le _, HM0.out, by simp, Fr.refl _ _⟩
  case round =>
    obtain ⟨k, es, cl, rfl, hk, hmp, hnd, hfr⟩ := hrel
    have HMP := hid hmp
    have HND := hid hnd
    have HFR := hid hfr
    have BW : Hid (Below w.heap.size w wr) := hid (below_fr B13.out hfr HSZ.out.2)
    clear hmp hnd hfr HM0
    by_cases hlt : k < n
    case pos =>
      have hlt' : (k : Int) < (n : Int) := by omega
      have hx : k < l.length := by rw [HN.out]; exact hlt
      obtain ⟨b, off, c', e1, _, _, hbl, hc⟩ := HO.out.inv (by rw [HN.out]; omega)
      rw [HN.out] at e1
      simp only [Value.slice.injEq] at e1
      obtain ⟨rfl, -, rfl⟩ := e1
      have hc1 := hc k hx 1 (by decide)
      have hc2 := hc k hx 2 (by decide)
      obtain ⟨⟨o, u⟩, hp⟩ : ∃ p, l[k] = p := ⟨_, rfl⟩
      rw [hp] at hc1 hc2
      have HP := hid hp
      have z1 : wr.cell? ⟨b, off + k * 20 + 1, none⟩ = some (.int .i64 o.ir) := (BW.out.cell (p := ⟨b, off + k * 20 + 1, none⟩) hbl).trans hc1
      have z2 : wr.cell? ⟨b, off + k * 20 + 2, none⟩ = some (.int .i64 o.im) := (BW.out.cell (p := ⟨b, off + k * 20 + 2, none⟩) hbl).trans hc2
      clear hc hc1 hc2 hp
      by_cases hin : ido2 o ∈ idsL (l.take k)
      · have HR1 : Hid ((Instr.lookup 65 (.map (some sm)) (idv o.ir o.im) false).run Tryd.prog wr = .ok (.int .i64 1) wr) := hid (by
          have := run_lk_some Tryd.underlying65 o.ir o.im wr sm es cl (seenL (l.take k)) HMP.out.at' HMP.out.em false (.int .i64 1) (fun x hx _ => by obtain ⟨p, _, rfl⟩ := List.mem_map.1 hx; rfl) (by
            obtain ⟨p, hp, e⟩ := List.mem_map.1 hin
            exact ⟨_, List.mem_map_of_mem hp, e⟩)
          exact this)
        clear hin
        go_wp2_with (first | (refine wpList_lk rfl _ _ false rfl sm o.ir o.im (.int .i64 1) rfl rfl HR1.out ?_) | fail)
        go_ret
        exact ⟨rfl, BW.out⟩
      · have hno : ∀ x ∈ seenL (l.take k), x.1 ≠ (o.ir, o.im) := fun x hx e => hin (by
          obtain ⟨p, hp, rfl⟩ := List.mem_map.1 hx
          exact List.mem_map.2 ⟨p, hp, e⟩)
        have HR1 : Hid ((Instr.lookup 65 (.map (some sm)) (idv o.ir o.im) false).run Tryd.prog wr = .ok (.int .i64 0) wr) := hid (run_lk_none Tryd.underlying65 o.ir o.im wr sm es cl (seenL (l.take k)) HMP.out.at' HMP.out.em false (.int .i64 0) (zero_int wr) hno)
        have HR2 := hid (run_ps Tryd.underlying65 o.ir o.im wr sm es cl (seenL (l.take k)) HMP.out.at' HMP.out.em (.int .i64 1) hno)
        have hput := HMP.out.put o.ir o.im (.int .i64 1)
        have hfp := Fr.put wr sm (.map (es.push ⟨idv o.ir o.im, .int .i64 1, cl⟩) (cl + 1))
        obtain ⟨w5, hw5⟩ : ∃ w5, wr.putObj sm (.map (es.push ⟨idv o.ir o.im, .int .i64 1, cl⟩) (cl + 1)) = w5 := ⟨_, rfl⟩
        rw [hw5] at HR2 hput hfp
        have HPUT := hid hput
        have HF5 := hid (HFR.out.trans hfp (fun _ _ e => e))
        have y1 : w5.cell? ⟨b, off + k * 20 + 1, none⟩ = some (.int .i64 o.ir) := by
          rw [← z1]
          refine World.cell?_of_block (hfp.block b (World.block_lt_of_cell? _ _ z1) (fun e => ?_))
          have h1 := HSZ.out.2
          omega
        have HIN := hid hin
        clear hno hput hfp hw5 hin y1
        go_wp2_with (first | (refine wpList_lk rfl _ _ false rfl sm o.ir o.im (.int .i64 0) rfl rfl HR1.out ?_) | (refine wpList_ps rfl _ _ _ rfl sm o.ir o.im (.int .i64 1) rfl rfl rfl w5 HR2.out ?_) | fail)
        go_roundw
        case rel =>
          have et : l.take (k + 1) = l.take k ++ [(o, u)] := by rw [List.take_succ_eq_append_getElem hx, HP.out]
          refine ⟨k + 1, es.push ⟨idv o.ir o.im, .int .i64 1, cl⟩, cl + 1, by go_num, hlt, ?_, ?_, HF5.out⟩
          · rw [et]
            unfold seenL
            rw [List.map_append]
            exact HPUT.out
          · rw [et]
            unfold idsL
            rw [List.map_append, List.nodup_append]
            refine ⟨HND.out, by simp, fun x hx y hy e => HIN.out ?_⟩
            simp only [List.map_cons, List.map_nil, List.mem_singleton] at hy
            rw [← hy, ← e]
            exact hx
        case measure => simp [intOf]; omega
    case neg =>
    obtain rfl : n = k := by omega
    have hnl : ¬ (n : Int) < (n : Int) := by omega
    have hids : (idsL l).Nodup := by
      have := HND.out
      rwa [List.take_of_length_le (by rw [HN.out]; exact Nat.le_refl _)] at this
    have HIDS := hid hids
    have B1R : Hid (Below w1.heap.size w1 wr) := hid (below_fr B3R.out HFR.out (by rw [HSM1.out]; exact Nat.le_refl _))
    have HMZ : Hid (Mz wr B2 n ma mc l0) := hid (by
      by_cases h0 : n = 0
      · left
        have e0 : l0 = [] := List.eq_nil_of_length_eq_zero (by rw [HL0.out]; exact h0)
        refine ⟨h0, e0, ?_⟩
        have := HRW.out.os
        rw [e0, h0] at this ⊢
        exact os_nil this
      · right
        obtain ⟨g, c9, e9, h9⟩ := Rg9.of HRW.out (by rw [HL0.out]; omega)
        simp only [Value.slice.injEq] at e9
        obtain ⟨rfl, _, rfl⟩ := e9
        have h10 := HSZ.out.1
        have h11 := h9.le
        exact ⟨g, rfl, h9.fr HFR.out (by omega) (fun p hp j hj e => by have := HNW.out p hp j hj; omega), HL0.out⟩)
    have HPM : Hid ((l0.map (·.1)).Perm (l.map (·.1))) := hid (by rw [HFS.out])
    have HB2 : Hid (w1.heap.size < B2) := hid (by rw [HSM1.out]; exact HSZ.out.1)
    clear hids HMP HND HFR B3R HRW HNW HL0 HFS HSZ HSM1 B13
    go_wp2
    go_loopw [8, 9, 10] (fun i _ _ wq => ∃ (j : Nat) (l2 : List (Opn × Value)), i = .int .i64 j ∧ j ≤ T ∧ (l2.map (·.1)).Perm (l.map (·.1)) ∧ Mz wq B2 n ma mc l2 ∧ Below w1.heap.size w1 wq) (fun i _ _ _ => T - (intOf i).toNat)
    case atStart => exact ⟨0, l0, rfl, Nat.zero_le _, HPM.out, HMZ.out, B1R.out⟩
    case round =>
      obtain ⟨j, l2, rfl, hj, hpm, hmz, hbq⟩ := hrel
      have HPM2 := hid hpm
      have HMZ2 := hid hmz
      have BQ := hid hbq
      clear hpm hmz hbq HMZ HPM B1R
      by_cases hgo : j < T ∧ 1 < n
      case pos =>
        obtain ⟨hjT, h1n⟩ := hgo
        have d1 : decide ((j : Int) < (T : Int)) = true := by simp; omega
        have d2 : decide ((1 : Int) < (n : Int)) = true := by simp; omega
        obtain ⟨tb, toff, tc', e1, _, _, hcz⟩ := HZ.out.inv (by rw [HTL.out]; omega)
        rw [HTL.out] at e1
        simp only [Value.slice.injEq] at e1
        obtain ⟨rfl, -, rfl⟩ := e1
        have hz := hcz j (by rw [HTL.out]; exact hjT)
        obtain ⟨z, hzz⟩ : ∃ z, zs.getD j 0 = z := ⟨_, rfl⟩
        rw [hzz] at hz
        have hzq := ((B1.out.trans (BQ.out.mono B1.out.size)).cell (p := ⟨tb, toff + j, none⟩) (World.block_lt_of_cell? _ _ hz)).trans hz
        obtain ⟨q, pa, hq1, hq2, hpa, hq3⟩ := place_of z h1n
        obtain ⟨pb, hq4, hpb⟩ := place_at j h1n
        obtain ⟨g, rfl, hrg, hln⟩ : ∃ g, ma = some ⟨g, 0, none⟩ ∧ Rg9 B2 _ g mc l2 ∧ l2.length = n := by
          rcases HMZ2.out with ⟨h0, _⟩ | h
          · omega
          · exact h
        have HRG := hid hrg
        have HLN := hid hln
        have HPA := hid hpa
        have HPB := hid hpb
        have hn0 : ¬ (n : Int) = 0 := by omega
        clear hz hzz hcz hrg hln hpa hpb
        have hxa : pa < l2.length := by rw [HLN.out]; exact HPA.out
        have hxb : pb < l2.length := by rw [HLN.out]; exact HPB.out
        obtain ⟨⟨oa, ua⟩, hA⟩ : ∃ p, l2[pa] = p := ⟨_, rfl⟩
        obtain ⟨⟨ob, ub⟩, hB⟩ : ∃ p, l2[pb] = p := ⟨_, rfl⟩
        have ca := fun i hi => HRG.out.cell hxa i hi
        have cb := fun i hi => HRG.out.cell hxb i hi
        have csa := HRG.out.cs _ (List.getElem_mem hxa)
        have csb := HRG.out.cs _ (List.getElem_mem hxb)
        rw [hA] at ca csa
        rw [hB] at cb csb
        obtain ⟨va, vc, hva, _⟩ := csa.form
        obtain ⟨vb, vd, hvb, _⟩ := csb.form
        have HCA := hid ca
        have HCB := hid cb
        have HUA : Hid (∃ va n vc, ua = .slice va n vc) := hid ⟨_, _, _, hva⟩
        have HUB : Hid (∃ va n vc, ub = .slice va n vc) := hid ⟨_, _, _, hvb⟩
        have HEA := hid hA
        have HEB := hid hB
        clear hA hB ca cb csa csb hva hvb
        go_upto_region 18 with (fail)
        refine swap_r (g := g) (n := n) (c := mc) (a := pa) (b := pb) (K := mc * 20) (oa := oa) (ob := ob) (ua := ua) (ub := ub) (by obtain ⟨cur,h1,_,_,h2,_⟩ := HRG.out.row; exact ⟨cur,h1,h2⟩) HPA.out HPB.out (by obtain ⟨cur,_,h1,_⟩ := HRG.out.row; rw [HLN.out] at h1; omega) HCA.out HCB.out HUA.out HUB.out (fun _ _ _ _ _ h => h) ?_
        obtain ⟨s1, s2, s3⟩ := (HRG.out.below (bd wr 1)).swap hxa hxb
        rw [HEA.out, HEB.out] at s1 s2 s3
        obtain ⟨w9, hw9⟩ : ∃ w9, ((World.drew wr).setCells g (pa * 20) (opc (ob, ub))).setCells g (pb * 20) (opc (oa, ua)) = w9 := ⟨_, rfl⟩
        change Rg9 B2 (((World.drew wr).setCells g (pa * 20) (opc (ob, ub))).setCells g (pb * 20) (opc (oa, ua))) g mc _ at s1
        change Fr _ _ (((World.drew wr).setCells g (pa * 20) (opc (ob, ub))).setCells g (pb * 20) (opc (oa, ua))) at s2
        rw [hw9] at s1 s2 ⊢
        have hle := s1.le
        have B9 := hid (below_fr (bt BQ.out (bd wr 1)) s2 (by have := HB2.out; omega))
        have S1 := hid s1
        have S3 := hid (s3.map (·.1))
        clear s1 s2 s3 hw9 hle
        go_wp2_with fail
        go_roundw
        case rel => exact ⟨j + 1, _, by go_num, by omega, S3.out.trans HPM2.out, .inr ⟨g, rfl, S1.out, by simp [HLN.out]⟩, B9.out⟩
        case measure => simp [intOf]; omega
      case neg =>
        have hst : (decide ((j : Int) < (T : Int)) = false ∧ ¬ (j : Int) < (T : Int)) ∨ (decide ((j : Int) < (T : Int)) = true ∧ decide ((1 : Int) < (n : Int)) = false ∧ (j : Int) < (T : Int) ∧ ¬ (1 : Int) < (n : Int)) := by
          by_cases h1 : j < T
          · right
            have h2 : ¬ 1 < n := fun h => hgo ⟨h1, h⟩
            have h3 : (j : Int) < (T : Int) := by omega
            have h4 : ¬ (1 : Int) < (n : Int) := by omega
            exact ⟨decide_eq_true h3, decide_eq_false h4, h3, h4⟩
          · left
            have h3 : ¬ (j : Int) < (T : Int) := by omega
            exact ⟨decide_eq_false h3, h3⟩
        have BWM := hid (B1.out.trans (BQ.out.mono B1.out.size))
        have HLW := hid (HL.out.below BWM.out)
        have HOW := hid HMZ2.out.os
        have HLN := hid HMZ2.out.len
        have HIDX : Hid (((l.map (·.1)).map ido2).Nodup) := hid (by rw [ids_fst]; exact HIDS.out)
        have HIDY : Hid (((l2.map (·.1)).map ido2).Nodup) := hid ((HPM2.out.map ido2).nodup_iff.2 HIDX.out)
        have I0X := hid (Iv.start (l.map (·.1)))
        clear hgo
        rcases hst with ⟨d1, d3⟩ | ⟨d1, d2, d3, d4⟩
        all_goals
          go_wp2_with fail
          refine (cnew_any wr (lay_two HLW.out)).mono ?_
          rintro e x1 ⟨bx, mx, rfl, hux, hlox, hbx⟩
          go_wp2_with fail
          refine (cnew_any x1 (by have := lay_two HLW.out; have := hbx.size; omega)).mono ?_
          rintro e x2 ⟨by_, my, rfl, huy, hloy, hby⟩
          go_wp2_with fail
          refine (new_any x2).mono ?_
          rintro e x3 ⟨rfl, hv3, hb3⟩
          go_wp2_with fail
          refine (new_any x3).mono ?_
          rintro e x4 ⟨rfl, hv4, hb4⟩
          obtain ⟨sx, sy, sp⟩ := two_new HLW.out hux hlox hbx huy hloy hby hv3 hb3 hv4 hb4
          obtain ⟨N, hN⟩ : ∃ N, x4.heap.size = N := ⟨_, rfl⟩
          obtain ⟨vx, hvx⟩ : ∃ vx, x2.heap.size = vx := ⟨_, rfl⟩
          obtain ⟨vy, hvy⟩ : ∃ vy, x3.heap.size = vy := ⟨_, rfl⟩
          rw [hN, hvx] at sx
          rw [hN, hvy] at sy
          rw [hN, hvx, hvy] at sp
          rw [hvx, hvy]
          have SX0 := hid sx
          have SY0 := hid sy
          have P := sp
          have PX : Hid (∀ i, i = mx ∨ i = vx → i < N ∧ wr.heap.size ≤ i ∧ 2 ≤ i) := hid (fun i hi => by have h1 := P.lt; have h2 := P.lo; have h3 := P.two; rcases hi with rfl | rfl <;> exact ⟨by omega, by omega, by omega⟩)
          have PY : Hid (∀ i, i = my ∨ i = vy → i < N ∧ wr.heap.size ≤ i ∧ 2 ≤ i) := hid (fun i hi => by have h1 := P.lt; have h2 := P.lo; have h3 := P.two; rcases hi with rfl | rfl <;> exact ⟨by omega, by omega, by omega⟩)
          have PE := hid P.e
          clear P sx sy sp hN hvx hvy hux hlox hbx huy hloy hby hv3 hb3 hv4 hb4
          go_wp2
          go_loopw [15] (fun i wz => ∃ (k : Nat) (V : List Int) (lx ly : List Opn),i = .int .i64 k ∧ k ≤ n ∧ Iv (l.map (·.1)) ((l.map (·.1)).take k) V lx ∧ takO V lx = none ∧ Iv (l.map (·.1)) ((l2.map (·.1)).take k) v0 ly ∧ lx.length ≤ k ∧ ly.length ≤ k ∧ Sx wr N bx mx vx wz V lx ∧ Sx wr N by_ my vy wz v0 ly) (fun i _ => n - (intOf i).toNat)
          case atStart => exact ⟨0, v0, [], [], rfl, Nat.zero_le _, I0X.out, rfl, I0X.out, Nat.le_refl _, Nat.le_refl _, SX0.out, SY0.out⟩
          case round =>
            obtain ⟨k, V, lx, ly, rfl, hk, hix, hnx, hiy, hlx, hly, hsx, hsy⟩ := hrel
            have IX := hid hix
            have NX := hid hnx
            have IY := hid hiy
            have LX := hid hlx
            have LY := hid hly
            have SX := hid hsx
            have SY := hid hsy
            clear hix hnx hiy hlx hly hsx hsy SX0 SY0
            by_cases hlt : k < n
            case pos =>
              have hlt' : (k : Int) < (n : Int) := by omega
              have hx : k < l.length := by rw [HN.out]; exact hlt
              have hy : k < l2.length := by rw [HLN.out]; exact hlt
              obtain ⟨b, off, c', e1, _, _, hbl, hc⟩ := HO.out.inv (by omega)
              rw [HN.out] at e1
              simp only [Value.slice.injEq] at e1
              obtain ⟨rfl, -, rfl⟩ := e1
              have hc := hc k hx
              obtain ⟨mb_, moff, mc', e2, _, _, hbl2, hd⟩ := HOW.out.inv (by omega)
              rw [HLN.out] at e2
              simp only [Value.slice.injEq] at e2
              obtain ⟨rfl, -, rfl⟩ := e2
              have hd := hd k hy
              obtain ⟨⟨o, u⟩, hp⟩ : ∃ p, l[k] = p := ⟨_, rfl⟩
              obtain ⟨⟨o2, u2⟩, hq⟩ : ∃ p, l2[k] = p := ⟨_, rfl⟩
              have hcs := HO.out.2 _ (List.getElem_mem hx)
              have hfin := HSM.out.2 _ (List.getElem_mem hx)
              have hcs2 := HOW.out.2 _ (List.getElem_mem hy)
              have hfin2 : (l2[k]).1.fine ∧ (l2[k]).1.cuts.length ≤ 40 := by
                have h1 := HPM2.out.mem_iff.1 (List.mem_map_of_mem (f := (·.1)) (List.getElem_mem hy))
                obtain ⟨p, hp, e⟩ := List.mem_map.1 h1
                rw [← e]
                exact HSM.out.2 p hp
              rw [hp] at hc hcs hfin
              rw [hq] at hd hcs2 hfin2
              dsimp only at hc hcs hfin hd hcs2 hfin2
              have C1 := hid (fun W (hW : Below _ w W) => cells_on (W := W) hbl hc hW)
              have C2 := hid (fun W (hW : Below _ _ W) => cells_on (W := W) hbl2 hd hW)
              have KC1 := hid hcs
              have KC2 := hid hcs2
              have KF1 := hid hfin
              have KF2 := hid hfin2
              have et : (l.map (·.1)).take (k + 1) = (l.map (·.1)).take k ++ [o] := by rw [List.take_succ_eq_append_getElem (by simpa using hx), List.getElem_map, hp]
              have et2 : (l2.map (·.1)).take (k + 1) = (l2.map (·.1)).take k ++ [o2] := by rw [List.take_succ_eq_append_getElem (by simpa using hy), List.getElem_map, hq]
              have fr1 : ido2 o ∉ ((l.map (·.1)).take k).map ido2 := by
                have := fresh_at HIDX.out (k := k) (by simpa using hx)
                rwa [List.getElem_map, hp] at this
              have fr2 : ido2 o2 ∉ ((l2.map (·.1)).take k).map ido2 := by
                have := fresh_at HIDY.out (k := k) (by simpa using hy)
                rwa [List.getElem_map, hq] at this
              have hox := IX.out.offer fr1 (by have := LX.out; omega)
              have hoy := IY.out.offer fr2 (by have := LY.out; omega)
              rw [← et] at hox
              rw [← et2] at hoy
              have OX := hid hox
              have OY := hid hoy
              have lox := off_len SX.out.bu.wl o (V := V)
              have loy := off_len SY.out.bu.wl o2 (V := v0)
              have OLX : Hid ((offL V lx o).length ≤ k + 1) := hid (by rw [lox]; have := LX.out; split <;> omega)
              have OLY : Hid ((offL v0 ly o2).length ≤ k + 1) := hid (by rw [loy]; have := LY.out; split <;> omega)
              have F1 := hid (offer_any o u _ SX.out.bu SX.out.vc SX.out.lay (KC1.out.below (bt BWM.out SX.out.bw)) KF1.out.1 (by have := KF1.out.2; omega) SX.out.le (by have := LX.out; omega))
              clear hc hd hp hq hcs hfin hcs2 hfin2 et et2 fr1 fr2 hox hoy lox loy
              go_wp2_with (first | (refine wpList_val _ rfl (run_load_opat rfl rfl (C1.out _ (bt BWM.out SX.out.bw))) ?_) | fail)
              refine F1.out.mono ?_
              rintro e y1 ⟨rfl, hu1, hf1⟩
              have SX1 := hid (SX.out.mfr hu1 hf1)
              have SY1 := hid (SY.out.apart hf1 ⟨fun e => by have := PE.out; omega, fun e => by have := PE.out; omega, fun e => by have := PE.out; omega⟩ (fun i hi => PX.out i (.inl hi)))
              have D1 := hid (drain_any n SX1.out (by omega) (by have := OLX.out; omega))
              clear hu1 hf1 F1
              go_wp2_with fail
              refine D1.out.mono ?_
              rintro e y2 ⟨⟨kd, rfl⟩, V2, l2x, nd, hdn, hnn, hs2, hf2⟩
              have hdl := hdn.len
              have hn2 : takO V2 l2x = none := by
                rcases hnn with h | h
                · exact h
                · have := OLX.out; omega
              have SX2 := hid hs2
              have SY2 := hid (SY1.out.apart hf2 ⟨fun e => by have := PE.out; omega, fun e => by have := PE.out; omega, fun e => by have := PE.out; omega⟩ (fun i hi => PX.out i hi))
              have IX2 := hid (OX.out.dn (fun q hq => List.mem_of_mem_take hq) hdn)
              have NX2 := hid hn2
              have LX2 : Hid (l2x.length ≤ k + 1) := hid (by have := OLX.out; omega)
              have F2 := hid (offer_any o2 u2 _ SY2.out.bu SY2.out.vc SY2.out.lay (KC2.out.below SY2.out.bw) KF2.out.1 (by have := KF2.out.2; omega) SY2.out.le (by have := LY.out; omega))
              clear hdn hnn hs2 hf2 hdl hn2 D1
              go_wp2_with (first | (refine wpList_val _ rfl (run_load_opat rfl rfl (C2.out _ SY2.out.bw)) ?_) | fail)
              refine F2.out.mono ?_
              rintro e y3 ⟨rfl, hu3, hf3⟩
              have SY3 := hid (SY2.out.mfr hu3 hf3)
              have SX3 := hid (SX2.out.apart hf3 ⟨fun e => by have := PE.out; omega, fun e => by have := PE.out; omega, fun e => by have := PE.out; omega⟩ (fun i hi => PY.out i (.inl hi)))
              clear hu3 hf3 F2
              go_wp2_with fail
              go_roundw
              case rel => exact ⟨k + 1, V2, l2x, _, by go_num, hlt, IX2.out, NX2.out, OY.out, LX2.out, OLY.out, SX3.out, SY3.out⟩
              case measure => simp [intOf]; omega
            case neg =>
              obtain rfl : n = k := by omega
              have hnl9 : ¬ (n : Int) < (n : Int) := by omega
              have D1 := hid (drain_any n SY.out (by omega) (by have := LY.out; omega))
              go_wp2_with fail
              refine D1.out.mono ?_
              rintro e y2 ⟨⟨kd, rfl⟩, V2, l2y, nd, hdn, hnn, hs2, hf2⟩
              have hdl := hdn.len
              have hn2 : takO V2 l2y = none := by
                rcases hnn with h | h
                · exact h
                · have := LY.out; omega
              have hsub : ∀ q ∈ (l2.map (·.1)).take n, q ∈ l.map (·.1) := fun q hq => HPM2.out.mem_iff.1 (List.mem_of_mem_take hq)
              have hiy := IY.out.dn hsub hdn
              obtain ⟨rfl, rfl⟩ := IX.out.same hiy (fun q hq => by rw [List.take_of_length_le (by simp [HN.out])]; exact hq) (fun q hq => by rw [List.take_of_length_le (by simp [HLN.out])]; exact HPM2.out.mem_iff.2 hq) (fun q hq => List.mem_of_mem_take hq) hsub NX.out hn2
              have SY2 := hid hs2
              have SX2 := hid (SX.out.apart hf2 ⟨fun e => by have := PE.out; omega, fun e => by have := PE.out; omega, fun e => by have := PE.out; omega⟩ (fun i hi => PY.out i hi))
              have HV1 := hid (have_any vx V _ SX2.out.vc)
              have LX9 : Hid (lx.length ≤ 1000000) := hid (by have := LX.out; omega)
              clear hdn hnn hs2 hf2 hdl hn2 hiy hsub D1
              go_wp2_with fail
              refine HV1.out.mono ?_
              rintro e y3 ⟨h1, rfl, hz1, b3⟩
              have SY3 := hid (SY2.out.below b3)
              have SX3 := hid (SX2.out.below b3)
              have Z1 := hid hz1
              obtain ⟨za, zc, hza, _⟩ := hz1.form
              clear hz1 b3 HV1
              subst hza
              go_wp2_with fail
              refine (have_any vy V y3 SY3.out.vc).mono ?_
              rintro e y4 ⟨h2, rfl, hz2, b4⟩
              have SY4 := hid (SY3.out.below b4)
              have SX4 := hid (SX3.out.below b4)
              have Z1' := hid (Z1.out.below b4)
              have Z2 := hid hz2
              obtain ⟨zb, zd, hzb, _⟩ := hz2.form
              clear hz2 b4
              subst hzb
              have HSI := hid (sameints_any _ _ V V y4 Z1'.out Z2.out)
              rw [show decide (V = V) = true from by simp] at HSI
              go_wp2_with fail
              refine HSI.out.mono ?_
              rintro e y5 ⟨rfl, b5⟩
              have SY5 := hid (SY4.out.below b5)
              have SX5 := hid (SX4.out.below b5)
              clear b5 HSI
              go_wp2_with fail
              refine (ids_any SX5.out.bu LX9.out).mono ?_
              rintro e y6 ⟨i1, rfl, hi1, b6⟩
              have SY6 := hid (SY5.out.below b6)
              have J1 := hid hi1
              obtain ⟨ja, jc, hja, _⟩ := hi1.form
              clear hi1 b6
              subst hja
              go_wp2_with fail
              refine (ids_any SY6.out.bu LX9.out).mono ?_
              rintro e y7 ⟨i2, rfl, hi2, b7⟩
              have SY7 := hid (SY6.out.below b7)
              have J1' := hid (J1.out.below b7)
              have J2 := hid hi2
              obtain ⟨jb, jd, hjb, _⟩ := hi2.form
              clear hi2 b7
              subst hjb
              have HSJ := hid (sameids_any _ _ (lx.map ido2) (lx.map ido2) y7 J1'.out J2.out)
              rw [show decide (lx.map ido2 = lx.map ido2) = true from by simp, List.length_map] at HSJ
              go_wp2_with fail
              refine HSJ.out.mono ?_
              rintro e y8 ⟨rfl, q8, rfl⟩
              go_wp2_with fail
              go_ret
              exact ⟨rfl, bt BWM.out (bt SY7.out.bw (bd y7 q8))⟩

end Go.Proofs.YtaojeanoojnknaaDoor
