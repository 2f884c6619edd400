/-
  What a reader's method field reads into an op is proved here, for every cursor, op and field.
-/
import Derived.Test.YtmgemgkanlpnnaaDoorOChar
import Derived.Test.YtmgemgkanlpnnaaDoorOCuts
namespace Go.Proofs.YtmgemgkanlpnnaaDoor
open Go.RowKit
set_option linter.unusedVariables false
set_option maxRecDepth 100000

/-- An op in a block of its own, its cuts elsewhere. -/
def Oi (B c : Nat) (w : World) (b : Nat) (o : Opn) : Prop := ∃ v, Ob w b o v ∧ Cs w v o.cuts ∧ (0 < o.cuts.length → v.ownBlock ≠ some b ∧ v.ownBlock ≠ some c) ∧ ∀ k, v.ownBlock = some k → B < k
theorem Cs.kept {w w' : World} {v : Value} {l : List Ct} (h : Cs w v l) (hb : 0 < l.length → ∀ k, v.ownBlock = some k → k < w.heap.size → w'.heap[k]? = w.heap[k]?) : Cs w' v l := by
  by_cases hl : 0 < l.length
  · exact Sl.kept h (hb hl)
  · obtain rfl := List.eq_nil_of_length_eq_zero (by omega : l.length = 0)
    obtain ⟨h0, a, c, h1, h2, h3, h4, _⟩ := h
    exact ⟨h0, a, c, h1, h2, h3, h4, fun j u hu => by simp at hu⟩
theorem Cs.fr {S : Nat → Prop} {w w' : World} {v : Value} {l : List Ct} (h : Cs w v l) (hf : Fr S w w') (hb : 0 < l.length → ∀ k, v.ownBlock = some k → ¬ S k) : Cs w' v l :=
  h.kept fun hl k hk hkl => hf.block k hkl (hb hl k hk)
theorem fr_two {b c : Nat} {w w1 w2 : World} (h : Fr (fun k => k = c) w w1) (k : Fr (fun k => k = b) w1 w2) : Fr (fun k => k = b ∨ k = c) w w2 := (h.mono (fun _ e => .inr e)).trans k (fun _ _ e => .inl e)

set_option maxHeartbeats 4000000 in
theorem field_r (f : Nat) (hf : f ≤ 8) (B c b : Nat) (o : Opn) (s : St) (w : World) (hBw : B < w.heap.size) (hO : Oi B c w b o) (h : Cu w c s) (hbc : b ≠ c) (hv : K.Byt s.1) :
    Calls Tryd.prog 31 #[rdv c, .pointer (some ⟨b, 0, none⟩), .int .i64 f] w fun e w' => e = .returned (.tuple #[]) ∧
      Oi B c w' b (rdF Bnd.own f (o, s)).1 ∧ Cu w' c (rdF Bnd.own f (o, s)).2 ∧ Fr (fun k => k = b ∨ k = c) w w' := by
  obtain ⟨v, hob, hcs, hvb, hvB⟩ := hO
  have HVB := hid hvB
  clear hvB
  have hlt := h.lt
  have hbl := hob.lt
  have HA := hid (ba w (rdo c))
  have HC := hid (h.below HA.out)
  have HO := hid (hob.below HA.out)
  have HS := hid (hcs.below HA.out)
  have HV := hid hvb
  have HY := hid hv
  have q0 : (w.alloc (rdo c)).cell? ⟨w.heap.size, 0, none⟩ = some (.pointer (some ⟨c, 0, none⟩)) := cell_of_row _ _ 0 _ _ _ (heap_alloc_new w (rdo c))
  clear h hob hcs hvb hv
  have nb1 : ∀ (n x : Int), (Value.int .i64 n) ≠ .int .u8 x := fun n x => by simp
  have nb2 : ∀ (t : ByteArray) (x : Int), (Value.string t) ≠ .int .u8 x := fun t x => by simp
  have nb3 : ∀ (t : Bool) (x : Int), (Value.bool t) ≠ .int .u8 x := fun t x => by simp
  rcases nine hf with rfl | rfl | rfl | rfl | rfl | rfl | rfl | rfl | rfl
  · have N1 := hid (fun W => name_r c s W)
    have hrd : rdF Bnd.own 0 (o, s) = ({ o with br := (rn 15 s).1, bm := (rn 1048576 (rn 15 s).2).1 }, (rn 1048576 (rn 15 s).2).2) := rfl
    obtain ⟨p1, hp1⟩ : ∃ p, rn 15 s = p := ⟨_, rfl⟩
    rw [hp1] at N1 hrd
    obtain ⟨p2, hp2⟩ : ∃ p, rn 1048576 p1.2 = p := ⟨_, rfl⟩
    rw [hp2] at N1 hrd
    rw [hrd]
    clear hrd hp1 hp2
    go_enter Tryd.func31, Tryd.ntmps31
    go_wp2_with fail
    refine (N1.out _ HC.out).mono ?_
    rintro e w1 ⟨rfl, hc1, hf1⟩
    have HF1 := hid (hf1)
    have HC1 := hid hc1
    have HO1 := hid (HF1.out.rows HO.out (by omega))
    have c4 := Ob.cell (w := w1) HO1.out 4
    have f4 := Ob.frozen (w := w1) HO1.out 4
    have c5 := Ob.cell (w := w1) HO1.out 5
    have f5 := Ob.frozen (w := w1) HO1.out 5
    simp at c4 c5
    clear hc1 hf1 q0
    go_wp2
    go_end0
    have K0 := set_row (i := 4) HO1.out (.int .i64 p1.1)
    have K1 := set_row (i := 5) K0 (.int .i64 p2.1)
    have hFr : Fr (fun k => k = b ∨ k = c) w _ := fr_two ((Fr.of_below HA.out).trans HF1.out (fun _ _ h => h)) ((Fr.of_set w1 b 4 (.int .i64 p1.1)).set 5 (.int .i64 p2.1) (.inr rfl))
    refine ⟨rfl, ⟨v, K1, ?_, HV.out, HVB.out⟩, ?_, hFr⟩
    · refine Cs.fr HS.out (S := fun k => k = b ∨ k = c) ?_ (fun hl k hk hs => ?_)
      · exact fr_two HF1.out ((Fr.of_set w1 b 4 (.int .i64 p1.1)).set 5 (.int .i64 p2.1) (.inr rfl))
      · have := HV.out hl
        rcases hs with rfl | rfl
        · exact this.1 hk
        · exact this.2 hk
    · exact (Cur.set_row (Cur.set_row HC1.out HO1.out hbc ⟨_, rfl, nb1 _⟩ _) K0 hbc ⟨_, rfl, nb1 _⟩ _)
  · have N1 := hid (fun W => name_r c s W)
    have hrd : rdF Bnd.own 1 (o, s) = ({ o with pr := (rn 15 s).1, pm := (rn 1048576 (rn 15 s).2).1 }, (rn 1048576 (rn 15 s).2).2) := rfl
    obtain ⟨p1, hp1⟩ : ∃ p, rn 15 s = p := ⟨_, rfl⟩
    rw [hp1] at N1 hrd
    obtain ⟨p2, hp2⟩ : ∃ p, rn 1048576 p1.2 = p := ⟨_, rfl⟩
    rw [hp2] at N1 hrd
    rw [hrd]
    clear hrd hp1 hp2
    go_enter Tryd.func31, Tryd.ntmps31
    go_wp2_with fail
    refine (N1.out _ HC.out).mono ?_
    rintro e w1 ⟨rfl, hc1, hf1⟩
    have HF1 := hid (hf1)
    have HC1 := hid hc1
    have HO1 := hid (HF1.out.rows HO.out (by omega))
    have c6 := Ob.cell (w := w1) HO1.out 6
    have f6 := Ob.frozen (w := w1) HO1.out 6
    have c7 := Ob.cell (w := w1) HO1.out 7
    have f7 := Ob.frozen (w := w1) HO1.out 7
    simp at c6 c7
    clear hc1 hf1 q0
    go_wp2
    go_end0
    have K0 := set_row (i := 6) HO1.out (.int .i64 p1.1)
    have K1 := set_row (i := 7) K0 (.int .i64 p2.1)
    have hFr : Fr (fun k => k = b ∨ k = c) w _ := fr_two ((Fr.of_below HA.out).trans HF1.out (fun _ _ h => h)) ((Fr.of_set w1 b 6 (.int .i64 p1.1)).set 7 (.int .i64 p2.1) (.inr rfl))
    refine ⟨rfl, ⟨v, K1, ?_, HV.out, HVB.out⟩, ?_, hFr⟩
    · refine Cs.fr HS.out (S := fun k => k = b ∨ k = c) ?_ (fun hl k hk hs => ?_)
      · exact fr_two HF1.out ((Fr.of_set w1 b 6 (.int .i64 p1.1)).set 7 (.int .i64 p2.1) (.inr rfl))
      · have := HV.out hl
        rcases hs with rfl | rfl
        · exact this.1 hk
        · exact this.2 hk
    · exact (Cur.set_row (Cur.set_row HC1.out HO1.out hbc ⟨_, rfl, nb1 _⟩ _) K0 hbc ⟨_, rfl, nb1 _⟩ _)
  · have N1 := hid (fun W => text_s c s 32 W)
    have hrd : rdF Bnd.own 2 (o, s) = ({ o with key := (rt 32 s).1 }, (rt 32 s).2) := rfl
    obtain ⟨p1, hp1⟩ : ∃ p, rt 32 s = p := ⟨_, rfl⟩
    rw [hp1] at N1 hrd
    rw [hrd]
    clear hrd hp1
    go_enter Tryd.func31, Tryd.ntmps31
    go_wp2_with fail
    refine (N1.out _ HC.out).mono ?_
    rintro e w1 ⟨rfl, hc1, hf1⟩
    have HF1 := hid (Fr.grown hf1)
    have HC1 := hid hc1
    have HO1 := hid (HF1.out.rows HO.out (by omega))
    have c8 := Ob.cell (w := w1) HO1.out 8
    have f8 := Ob.frozen (w := w1) HO1.out 8
    simp at c8
    clear hc1 hf1 q0
    go_wp2
    go_end0
    have K0 := set_row (i := 8) HO1.out (.string p1.1)
    have hFr : Fr (fun k => k = b ∨ k = c) w _ := fr_two ((Fr.of_below HA.out).trans HF1.out (fun _ _ h => h)) (Fr.of_set w1 b 8 (.string p1.1))
    refine ⟨rfl, ⟨v, K0, ?_, HV.out, HVB.out⟩, ?_, hFr⟩
    · refine Cs.fr HS.out (S := fun k => k = b ∨ k = c) ?_ (fun hl k hk hs => ?_)
      · exact fr_two HF1.out (Fr.of_set w1 b 8 (.string p1.1))
      · have := HV.out hl
        rcases hs with rfl | rfl
        · exact this.1 hk
        · exact this.2 hk
    · exact (Cur.set_row HC1.out HO1.out hbc ⟨_, rfl, nb2 _⟩ _)
  · have N1 := hid (fun W => name_r c s W)
    have hrd : rdF Bnd.own 3 (o, s) = ({ o with sr := (rn 15 s).1, sm := (rn 1048576 (rn 15 s).2).1 }, (rn 1048576 (rn 15 s).2).2) := rfl
    obtain ⟨p1, hp1⟩ : ∃ p, rn 15 s = p := ⟨_, rfl⟩
    rw [hp1] at N1 hrd
    obtain ⟨p2, hp2⟩ : ∃ p, rn 1048576 p1.2 = p := ⟨_, rfl⟩
    rw [hp2] at N1 hrd
    rw [hrd]
    clear hrd hp1 hp2
    go_enter Tryd.func31, Tryd.ntmps31
    go_wp2_with fail
    refine (N1.out _ HC.out).mono ?_
    rintro e w1 ⟨rfl, hc1, hf1⟩
    have HF1 := hid (hf1)
    have HC1 := hid hc1
    have HO1 := hid (HF1.out.rows HO.out (by omega))
    have c9 := Ob.cell (w := w1) HO1.out 9
    have f9 := Ob.frozen (w := w1) HO1.out 9
    have c10 := Ob.cell (w := w1) HO1.out 10
    have f10 := Ob.frozen (w := w1) HO1.out 10
    simp at c9 c10
    clear hc1 hf1 q0
    go_wp2
    go_end0
    have K0 := set_row (i := 9) HO1.out (.int .i64 p1.1)
    have K1 := set_row (i := 10) K0 (.int .i64 p2.1)
    have hFr : Fr (fun k => k = b ∨ k = c) w _ := fr_two ((Fr.of_below HA.out).trans HF1.out (fun _ _ h => h)) ((Fr.of_set w1 b 9 (.int .i64 p1.1)).set 10 (.int .i64 p2.1) (.inr rfl))
    refine ⟨rfl, ⟨v, K1, ?_, HV.out, HVB.out⟩, ?_, hFr⟩
    · refine Cs.fr HS.out (S := fun k => k = b ∨ k = c) ?_ (fun hl k hk hs => ?_)
      · exact fr_two HF1.out ((Fr.of_set w1 b 9 (.int .i64 p1.1)).set 10 (.int .i64 p2.1) (.inr rfl))
      · have := HV.out hl
        rcases hs with rfl | rfl
        · exact this.1 hk
        · exact this.2 hk
    · exact (Cur.set_row (Cur.set_row HC1.out HO1.out hbc ⟨_, rfl, nb1 _⟩ _) K0 hbc ⟨_, rfl, nb1 _⟩ _)
  · have N1 := hid (fun W => char_r c s W)
    have hrd : rdF Bnd.own 4 (o, s) = ({ o with lr := (rn 15 s).1, lm := (rn 1048576 (rn 15 s).2).1, li := (rn 63 (rn 1048576 (rn 15 s).2).2).1 }, (rn 63 (rn 1048576 (rn 15 s).2).2).2) := rfl
    obtain ⟨p1, hp1⟩ : ∃ p, rn 15 s = p := ⟨_, rfl⟩
    rw [hp1] at N1 hrd
    obtain ⟨p2, hp2⟩ : ∃ p, rn 1048576 p1.2 = p := ⟨_, rfl⟩
    rw [hp2] at N1 hrd
    obtain ⟨p3, hp3⟩ : ∃ p, rn 63 p2.2 = p := ⟨_, rfl⟩
    rw [hp3] at N1 hrd
    rw [hrd]
    clear hrd hp1 hp2 hp3
    go_enter Tryd.func31, Tryd.ntmps31
    go_wp2_with fail
    refine (N1.out _ HC.out).mono ?_
    rintro e w1 ⟨rfl, hc1, hf1⟩
    have HF1 := hid (hf1)
    have HC1 := hid hc1
    have HO1 := hid (HF1.out.rows HO.out (by omega))
    have c11 := Ob.cell (w := w1) HO1.out 11
    have f11 := Ob.frozen (w := w1) HO1.out 11
    have c12 := Ob.cell (w := w1) HO1.out 12
    have f12 := Ob.frozen (w := w1) HO1.out 12
    have c13 := Ob.cell (w := w1) HO1.out 13
    have f13 := Ob.frozen (w := w1) HO1.out 13
    simp at c11 c12 c13
    clear hc1 hf1 q0
    go_wp2
    go_end0
    have K0 := set_row (i := 11) HO1.out (.int .i64 p1.1)
    have K1 := set_row (i := 12) K0 (.int .i64 p2.1)
    have K2 := set_row (i := 13) K1 (.int .i64 p3.1)
    have hFr : Fr (fun k => k = b ∨ k = c) w _ := fr_two ((Fr.of_below HA.out).trans HF1.out (fun _ _ h => h)) (((Fr.of_set w1 b 11 (.int .i64 p1.1)).set 12 (.int .i64 p2.1) (.inr rfl)).set 13 (.int .i64 p3.1) (.inr rfl))
    refine ⟨rfl, ⟨v, K2, ?_, HV.out, HVB.out⟩, ?_, hFr⟩
    · refine Cs.fr HS.out (S := fun k => k = b ∨ k = c) ?_ (fun hl k hk hs => ?_)
      · exact fr_two HF1.out (((Fr.of_set w1 b 11 (.int .i64 p1.1)).set 12 (.int .i64 p2.1) (.inr rfl)).set 13 (.int .i64 p3.1) (.inr rfl))
      · have := HV.out hl
        rcases hs with rfl | rfl
        · exact this.1 hk
        · exact this.2 hk
    · exact (Cur.set_row (Cur.set_row (Cur.set_row HC1.out HO1.out hbc ⟨_, rfl, nb1 _⟩ _) K0 hbc ⟨_, rfl, nb1 _⟩ _) K1 hbc ⟨_, rfl, nb1 _⟩ _)
  · have N1 := hid (fun W => char_r c s W)
    have hrd : rdF Bnd.own 5 (o, s) = ({ o with gr := (rn 15 s).1, gm := (rn 1048576 (rn 15 s).2).1, gi := (rn 63 (rn 1048576 (rn 15 s).2).2).1 }, (rn 63 (rn 1048576 (rn 15 s).2).2).2) := rfl
    obtain ⟨p1, hp1⟩ : ∃ p, rn 15 s = p := ⟨_, rfl⟩
    rw [hp1] at N1 hrd
    obtain ⟨p2, hp2⟩ : ∃ p, rn 1048576 p1.2 = p := ⟨_, rfl⟩
    rw [hp2] at N1 hrd
    obtain ⟨p3, hp3⟩ : ∃ p, rn 63 p2.2 = p := ⟨_, rfl⟩
    rw [hp3] at N1 hrd
    rw [hrd]
    clear hrd hp1 hp2 hp3
    go_enter Tryd.func31, Tryd.ntmps31
    go_wp2_with fail
    refine (N1.out _ HC.out).mono ?_
    rintro e w1 ⟨rfl, hc1, hf1⟩
    have HF1 := hid (hf1)
    have HC1 := hid hc1
    have HO1 := hid (HF1.out.rows HO.out (by omega))
    have c14 := Ob.cell (w := w1) HO1.out 14
    have f14 := Ob.frozen (w := w1) HO1.out 14
    have c15 := Ob.cell (w := w1) HO1.out 15
    have f15 := Ob.frozen (w := w1) HO1.out 15
    have c16 := Ob.cell (w := w1) HO1.out 16
    have f16 := Ob.frozen (w := w1) HO1.out 16
    simp at c14 c15 c16
    clear hc1 hf1 q0
    go_wp2
    go_end0
    have K0 := set_row (i := 14) HO1.out (.int .i64 p1.1)
    have K1 := set_row (i := 15) K0 (.int .i64 p2.1)
    have K2 := set_row (i := 16) K1 (.int .i64 p3.1)
    have hFr : Fr (fun k => k = b ∨ k = c) w _ := fr_two ((Fr.of_below HA.out).trans HF1.out (fun _ _ h => h)) (((Fr.of_set w1 b 14 (.int .i64 p1.1)).set 15 (.int .i64 p2.1) (.inr rfl)).set 16 (.int .i64 p3.1) (.inr rfl))
    refine ⟨rfl, ⟨v, K2, ?_, HV.out, HVB.out⟩, ?_, hFr⟩
    · refine Cs.fr HS.out (S := fun k => k = b ∨ k = c) ?_ (fun hl k hk hs => ?_)
      · exact fr_two HF1.out (((Fr.of_set w1 b 14 (.int .i64 p1.1)).set 15 (.int .i64 p2.1) (.inr rfl)).set 16 (.int .i64 p3.1) (.inr rfl))
      · have := HV.out hl
        rcases hs with rfl | rfl
        · exact this.1 hk
        · exact this.2 hk
    · exact (Cur.set_row (Cur.set_row (Cur.set_row HC1.out HO1.out hbc ⟨_, rfl, nb1 _⟩ _) K0 hbc ⟨_, rfl, nb1 _⟩ _) K1 hbc ⟨_, rfl, nb1 _⟩ _)
  · have N1 := hid (fun W => text_s c s 64 W)
    have hrd : rdF Bnd.own 6 (o, s) = ({ o with text := (rt 64 s).1 }, (rt 64 s).2) := rfl
    obtain ⟨p1, hp1⟩ : ∃ p, rt 64 s = p := ⟨_, rfl⟩
    rw [hp1] at N1 hrd
    rw [hrd]
    clear hrd hp1
    go_enter Tryd.func31, Tryd.ntmps31
    go_wp2_with fail
    refine (N1.out _ HC.out).mono ?_
    rintro e w1 ⟨rfl, hc1, hf1⟩
    have HF1 := hid (Fr.grown hf1)
    have HC1 := hid hc1
    have HO1 := hid (HF1.out.rows HO.out (by omega))
    have c17 := Ob.cell (w := w1) HO1.out 17
    have f17 := Ob.frozen (w := w1) HO1.out 17
    simp at c17
    clear hc1 hf1 q0
    go_wp2
    go_end0
    have K0 := set_row (i := 17) HO1.out (.string p1.1)
    have hFr : Fr (fun k => k = b ∨ k = c) w _ := fr_two ((Fr.of_below HA.out).trans HF1.out (fun _ _ h => h)) (Fr.of_set w1 b 17 (.string p1.1))
    refine ⟨rfl, ⟨v, K0, ?_, HV.out, HVB.out⟩, ?_, hFr⟩
    · refine Cs.fr HS.out (S := fun k => k = b ∨ k = c) ?_ (fun hl k hk hs => ?_)
      · exact fr_two HF1.out (Fr.of_set w1 b 17 (.string p1.1))
      · have := HV.out hl
        rcases hs with rfl | rfl
        · exact this.1 hk
        · exact this.2 hk
    · exact (Cur.set_row HC1.out HO1.out hbc ⟨_, rfl, nb2 _⟩ _)
  · have N1 := hid (fun W => cuts_r c s W)
    have hrd : rdF Bnd.own 7 (o, s) = ({ o with cuts := (rcuts Bnd.own (rn 16 s).1.toNat (rn 16 s).2).1 }, (rcuts Bnd.own (rn 16 s).1.toNat (rn 16 s).2).2) := rfl
    obtain ⟨p1, hp1⟩ : ∃ p, rcuts Bnd.own (rn 16 s).1.toNat (rn 16 s).2 = p := ⟨_, rfl⟩
    rw [hp1] at N1 hrd
    rw [hrd]
    clear hrd hp1
    go_enter Tryd.func31, Tryd.ntmps31
    go_wp2_with fail
    refine (N1.out _ HC.out HY.out).mono ?_
    rintro e w1 ⟨u, rfl, hcu, hc1, hf1, hfr⟩
    obtain ⟨ua, uc, rfl, _, _⟩ := hcu.form
    have HU := hid hcu
    have HFR := hid hfr
    have HF1 := hid hf1
    have HC1 := hid hc1
    have HO1 := hid (HF1.out.rows HO.out (by omega))
    have c18 := Ob.cell (w := w1) HO1.out 18
    have f18 := Ob.frozen (w := w1) HO1.out 18
    simp at c18
    clear hc1 hf1 q0 hcu hfr
    have hvs : ∃ va vc, v = .slice va o.cuts.length vc := by
      obtain ⟨va, vc, e, _⟩ := HS.out.form
      exact ⟨va, vc, e⟩
    obtain ⟨va, vc, rfl⟩ := hvs
    go_wp2
    go_end0
    have K0 := set_row (i := 18) HO1.out (.slice ua p1.1.length uc)
    have hsz : (w.alloc (rdo c)).heap.size = w.heap.size + 1 := by simp
    have hne : ∀ k, Value.ownBlock (.slice ua p1.1.length uc) = some k → k ≠ b ∧ k ≠ c := fun k hk => by
      have := HFR.out k hk
      omega
    refine ⟨rfl, ⟨.slice ua p1.1.length uc, K0, ?_, fun _ => ⟨fun e => (hne b e).1 rfl, fun e => (hne c e).2 rfl⟩, fun k hk => by have := HFR.out k hk; omega⟩, ?_, fr_two ((Fr.of_below HA.out).trans HF1.out (fun _ _ h => h)) (Fr.of_set w1 b 18 _)⟩
    · refine Cs.fr HU.out (Fr.of_set w1 b 18 _) (fun hl k hk hs => ?_)
      exact (hne k hk).1 hs
    · exact Cur.set_row HC1.out HO1.out hbc ⟨_, rfl, fun x => by simp⟩ _
  · have N1 := hid (fun W => num_s c s 1 W)
    have hrd : rdF Bnd.own 8 (o, s) = ({ o with flag := (rn 1 s).1 == 1 }, (rn 1 s).2) := rfl
    obtain ⟨p1, hp1⟩ : ∃ p, rn 1 s = p := ⟨_, rfl⟩
    rw [hp1] at N1 hrd
    rw [hrd]
    clear hrd hp1
    go_enter Tryd.func31, Tryd.ntmps31
    go_wp2_with fail
    refine (N1.out _ HC.out).mono ?_
    rintro e w1 ⟨rfl, hc1, hf1⟩
    have HF1 := hid (Fr.grown hf1)
    have HC1 := hid hc1
    have HO1 := hid (HF1.out.rows HO.out (by omega))
    have c19 := Ob.cell (w := w1) HO1.out 19
    have f19 := Ob.frozen (w := w1) HO1.out 19
    simp at c19
    clear hc1 hf1 q0
    go_wp2
    go_end0
    have K0 := set_row (i := 19) HO1.out (.bool (p1.1 == 1))
    have hFr : Fr (fun k => k = b ∨ k = c) w _ := fr_two ((Fr.of_below HA.out).trans HF1.out (fun _ _ h => h)) (Fr.of_set w1 b 19 (.bool (p1.1 == 1)))
    refine ⟨rfl, ⟨v, K0, ?_, HV.out, HVB.out⟩, ?_, hFr⟩
    · refine Cs.fr HS.out (S := fun k => k = b ∨ k = c) ?_ (fun hl k hk hs => ?_)
      · exact fr_two HF1.out (Fr.of_set w1 b 19 (.bool (p1.1 == 1)))
      · have := HV.out hl
        rcases hs with rfl | rfl
        · exact this.1 hk
        · exact this.2 hk
    · exact (Cur.set_row HC1.out HO1.out hbc ⟨_, rfl, nb3 _⟩ _)

end Go.Proofs.YtmgemgkanlpnnaaDoor
