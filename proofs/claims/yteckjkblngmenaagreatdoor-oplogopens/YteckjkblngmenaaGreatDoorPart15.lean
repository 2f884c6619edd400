/-
  Parts of the proof, one behind the other; what each proves stands at its head.
-/
import Derived.Test.YteckjkblngmenaaGreatDoorPart14
import Derived.Test.YteckjkblngmenaaGreatDoorPart5
import Derived.Test.YteckjkblngmenaaGreatDoorPart10
import Derived.Test.YteckjkblngmenaaGreatDoorPart11
import Derived.Test.YteckjkblngmenaaGreatDoorPart12
import Derived.Test.YteckjkblngmenaaGreatDoorPart9
import Derived.Deep.MidRow
import Derived.Test.YteckjkblngmenaaGreatDoorPart13
import Derived.Deep.QuietTactic
import Derived.BigQuiet

/-
  That op.Clone hands back the same op, its cuts in new memory, is proved here, for every op.
-/
namespace Go.Proofs.YteckjkblngmenaaGreatDoor
open Go.RowKit
set_option linter.unusedVariables false
set_option maxRecDepth 100000

theorem strclone_any (s : ByteArray) (w : World) (h : s.size ≤ 1099511627776) : Calls Tryz.prog 110 #[.string s] w fun e w' => e = .returned (.string s) ∧ Below w.heap.size w w' := by
  have HC := hid (Tryz.stringslite_Clone s w (by omega))
  go_enter Tryz.func110, Tryz.ntmps110
  go_wp2_with fail
  refine HC.out.mono ?_
  rintro e w1 ⟨rfl, b1⟩
  have B1 := hid b1
  clear b1
  go_wp2
  go_ret
  exact ⟨rfl, B1.out⟩

theorem Ob.other {w : World} {r b i : Nat} {x : Value} {o : Opn} {v : Value} (h : Ob w r o v) (hne : r ≠ b) : Ob (w.setCell ⟨b, i, none⟩ x) r o v := by
  unfold Ob; rw [heap_setCell_other w ⟨b, i, none⟩ r x hne]; exact h

theorem Ob.grown {w w' : World} {b : Nat} {o : Opn} {v : Value} {row : Option Nat} (h : Ob w b o v) (g : w.grownBy w' row) (hne : row ≠ some b) : Ob w' b o v := by
  unfold Ob; rw [g.block b h.lt (fun e => hne (by rw [e]))]; exact h
theorem own_slice {w : World} {B e sz n : Nat} {v : Value} {xs : List Value} (h : w.ownsRow B e sz v n xs) : ∃ a c, v = .slice a n c := by
  obtain ⟨a, c, h, _⟩ := (Sl.of_own h).form
  exact ⟨a, c, h⟩

set_option maxHeartbeats 4000000 in
theorem clone_new (A : Value) (o : Opn) (v : Value) (hA : A = opv o v) (w : World) (hC : Cs w v o.cuts) (hfin : o.fine) (hl : o.cuts.length ≤ 100000) :
    Calls Tryz.prog 77 #[A] w fun e w' => ∃ u, e = .returned (opv o u) ∧ Cs w' u o.cuts ∧ Below w.heap.size w w' ∧ ∀ k, u.ownBlock = some k → w.heap.size ≤ k := by
  have HAA := hid hA
  have HC := hid hC
  have HF := hid hfin
  have HLN := hid hl
  clear hA hC hfin hl
  go_enter Tryz.func77, Tryz.ntmps77
  go_wp2_with (refine wpList_box_op rfl _ rfl A rfl o v HAA.out ?_; intro w1 hob hb1 hlt1; have HO1 := hid hob; have B1 := hid hb1; have HLT := hid hlt1; have HA2 := hid (ba w1 (.cells (zopc 0) 77)); have HO2 := hid (HO1.out.below HA2.out); have HZ2 := hid (Ob.zop w1 0); have B2 := hid (bt B1.out HA2.out); have c8 := HO2.out.cells.c8; clear hob hb1 hlt1)
  refine (strclone_any o.key _ HF.out.1).mono ?_
  rintro e w3 ⟨rfl, b3⟩
  obtain ⟨W2, hW2⟩ : ∃ W2, w1.alloc (.cells (zopc 0) 77) = W2 := ⟨_, rfl⟩
  have HZ2' : Hid (Ob (w1.alloc (.cells (zopc 0) 77)) w1.heap.size Opn.zero (.slice none 0 0)) := hid (heap_alloc_new w1 _)
  obtain ⟨r, hr⟩ : ∃ r, w1.heap.size = r := ⟨_, rfl⟩
  rw [hW2] at HO2 B2 HZ2' b3
  rw [hr] at HZ2' HLT ⊢
  have hrb : r ≠ w.heap.size := by have := HLT.out; omega
  clear c8 HZ2 HA2 HO1 B1 hr hW2
  have HO3 := hid (HO2.out.below b3)
  have HZ3 := hid (HZ2'.out.below b3)
  have B3 := hid (bt B2.out b3)
  have f8 := HO3.out.frozen 8
  have c8 := HO3.out.cells.c8
  have HO4 : Hid (Ob (w3.setCell ⟨w.heap.size, 8, none⟩ (.string o.key)) w.heap.size o v) := hid (set_row (i := 8) HO3.out (.string o.key))
  have HZ4 : Hid (Ob (w3.setCell ⟨w.heap.size, 8, none⟩ (.string o.key)) r Opn.zero (.slice none 0 0)) := hid (HZ3.out.other hrb)
  have B4 := hid (B3.out.setCell (p := ⟨w.heap.size, 8, none⟩) (Nat.le_refl _) (.string o.key))
  have c17 := HO4.out.cells.c17
  clear b3 HO2 HZ2' B2
  go_wp2_with fail
  refine (strclone_any o.text _ HF.out.2).mono ?_
  rintro e w5 ⟨rfl, b5⟩
  have HO5 := hid (HO4.out.below b5)
  have HZ5 := hid (HZ4.out.below b5)
  have B5 := hid (bt B4.out b5)
  have f17 := HO5.out.frozen 17
  clear c17 c8 f8 HO3 HZ3 HO4 HZ4 B3 B4 b5
  have c17 := HO5.out.cells.c17
  have HO6 : Hid (Ob (w5.setCell ⟨w.heap.size, 17, none⟩ (.string o.text)) w.heap.size o v) := hid (set_row (i := 17) HO5.out (.string o.text))
  have HZ6 : Hid (Ob (w5.setCell ⟨w.heap.size, 17, none⟩ (.string o.text)) r Opn.zero (.slice none 0 0)) := hid (HZ5.out.other hrb)
  have B6 := hid (B5.out.setCell (p := ⟨w.heap.size, 17, none⟩) (Nat.le_refl _) (.string o.text))
  have c18 := HO6.out.cells.c18
  have HC6 := hid (HC.out.below B6.out)
  have HOW : Hid ((w5.setCell ⟨w.heap.size, 17, none⟩ (.string o.text)).ownsRow w.heap.size 113 4 (.slice none 0 0) 0 []) := hid ⟨rfl, .inl ⟨rfl, rfl⟩⟩
  have H1C : Hid (∀ x ∈ o.cuts.flatMap cutc, x.oneCell' = true) := hid (fun x hx => by
    obtain ⟨c, _, hx⟩ := List.mem_flatMap.1 hx
    simp at hx
    rcases hx with rfl | rfl | rfl | rfl <;> rfl)
  have HLL : Hid ((0 + o.cuts.length) * 32 ≤ 140737488355328 ∧ 0 + o.cuts.length ≤ maxLen) := hid (by have := HLN.out; unfold maxLen; omega)
  have HNB : Hid ((Value.slice none 0 0).ownBlock ≠ some w.heap.size ∧ (Value.slice none 0 0).ownBlock ≠ some r) := hid (by simp [Value.ownBlock])
  have HBK : Hid (∀ k, (Value.slice none 0 0).ownBlock = some k → w.heap.size ≤ k) := hid (by simp [Value.ownBlock])
  go_wp2_with (first | (refine wpList_load_op rfl (.tmp 1) rfl w.heap.size rfl o _ HO8.out ?_) | (refine wpList_store_op rfl (.tmp 2) (.tmp 15) rfl r rfl o _ ⟨_,_,_,rfl⟩ rfl Opn.zero (.slice none 0 0) HZ8.out ?_) | (at_builtin; refine wpList_append_sl 75 113 4 32 _ Tryz.underlying75 info_cut rfl (by decide) rfl _ _ rfl w.heap.size _ _ [] rfl HOW.out v _ (o.cuts.flatMap cutc) rfl HC6.out H1C.out HLL.out.1 HLL.out.2 B6.out.size ?_; intro v' w7 hown7 hgrow7 hat7; rw [Nat.zero_add,List.nil_append] at hown7; have HO7 := hid (HO6.out.grown hgrow7 HNB.out.1); have HZ7 := hid (HZ6.out.grown hgrow7 HNB.out.2); have B7 := hid (Below.grown B6.out hgrow7 B6.out.size HBK.out); have c7 := HO7.out.cells.c18; have f7 := HO7.out.frozen 18; have H7 := hid hown7; have AT7 := hid hat7; obtain ⟨a7,q7,rfl⟩ := own_slice hown7; have HO8 : Hid (Ob (w7.setCell ⟨w.heap.size,18,none⟩ (.slice a7 o.cuts.length q7)) w.heap.size o (.slice a7 o.cuts.length q7)) := hid (set_row (i := 18) HO7.out (.slice a7 o.cuts.length q7)); have HZ8 : Hid (Ob (w7.setCell ⟨w.heap.size,18,none⟩ (.slice a7 o.cuts.length q7)) r Opn.zero (.slice none 0 0)) := hid (HZ7.out.other hrb); clear hown7 hgrow7 hat7 c18))
  have hne : ∀ k, (Value.slice a7 o.cuts.length q7).ownBlock = some k → k ≠ w.heap.size ∧ k ≠ r := by
    intro k hk
    rcases H7.out.2 with ⟨h, _⟩ | ⟨g, cap, cur, hv, _, hg, _⟩
    · rw [h] at hk; cases hk
    · rw [hv] at hk
      simp [Value.ownBlock] at hk
      subst hk
      have h1 := HO7.out
      have h2 := HZ7.out
      refine ⟨fun e => ?_, fun e => ?_⟩
      · rw [e] at hg; unfold Ob at h1; rw [hg] at h1; simp at h1
      · rw [e] at hg; unfold Ob at h2; rw [hg] at h2; simp at h2
  have hcs : Cs w7 (.slice a7 o.cuts.length q7) o.cuts := Sl.of_own H7.out
  refine bodyPost_ret (results_cell_row rfl _ _ r 77 (opl o (.slice a7 o.cuts.length q7)) (0, 0) _ rfl (setRow_heap _ _ _ _ _ _ HZ8.out) Tryz.underlying77 rfl (by kernel_rfl)) rfl ?_
  refine ⟨_, rfl, Sl.kept hcs (fun k hk _ => ?_), ?_, fun k hk => (H7.out.lt k hk).1⟩
  · rw [setRow_other _ _ _ _ (hne k hk).2, heap_setCell_other _ _ _ _ (hne k hk).1]
  · have b1 := B7.out.setCell (p := ⟨w.heap.size, 18, none⟩) (Nat.le_refl _) (.slice a7 o.cuts.length q7)
    have hr0 := HLT.out
    exact b1.trans ⟨rfl, rfl, rfl, by simp [World.setRow], fun k hk => setRow_other _ _ _ _ (by omega)⟩
end Go.Proofs.YteckjkblngmenaaGreatDoor

/-
  What op.DecodeAll returns is proved here, for all bytes (of at most 2^40).
-/
namespace Go.Proofs.YteckjkblngmenaaGreatDoor
open Go.RowKit
set_option linter.unusedVariables false
set_option maxRecDepth 100000

/-- All that the ops of a list hold lies at or above a place. -/
def Nw (B : Nat) (l : List (Opn × Value)) : Prop := ∀ p ∈ l, ∀ k, p.2.ownBlock = some k → B ≤ k
theorem Nw.nil (B : Nat) : Nw B [] := fun p hp => by cases hp
theorem Nw.snoc {B : Nat} {l : List (Opn × Value)} {p : Opn × Value} (h : Nw B l) (hp : ∀ k, p.2.ownBlock = some k → B ≤ k) : Nw B (l ++ [p]) := fun q hq => by
  rcases List.mem_append.1 hq with hq | hq
  · exact h q hq
  · rw [List.mem_singleton.1 hq]; exact hp
/-- As DA; and what the ops hold is new. -/
def DF (D : List Opn × Bool) (w : World) (e : Ending) (w' : World) : Prop := ∃ v l, e = .returned (.tuple #[v, .bool D.2]) ∧ Os w' v l ∧ fsts l = D.1 ∧ Below w.heap.size w w' ∧ Nw w.heap.size l
theorem DF.no {D : List Opn × Bool} {w w' : World} (hd : D = ([], false)) (hb : Below w.heap.size w w') : DF D w (.returned (.tuple #[.slice none 0 0, .bool false])) w' := by
  subst hd
  exact ⟨_, [], rfl, ⟨Sl.nil _ _, fun p hp => by cases hp⟩, rfl, hb, Nw.nil _⟩
theorem DF.yes {D : List Opn × Bool} {w w' : World} {v : Value} {l : List (Opn × Value)} (hd : D = (fsts l, true)) (ho : Os w' v l) (hb : Below w.heap.size w w') (hn : Nw w.heap.size l) : DF D w (.returned (.tuple #[v, .bool true])) w' := by
  subst hd
  exact ⟨_, l, rfl, ho, rfl, hb, hn⟩

set_option maxHeartbeats 4000000 in
theorem decodeall_new (vb : Value) (xs : List Int) (w : World) (hL : Lay w) (h : Bs w vb xs) (hn : xs.length ≤ 1099511627776) :
    Calls Tryz.prog 62 #[vb] w fun e w' => DF (decA mOwn xs) w e w' := by
  have HB := hid h
  have HL := hid hL
  have HLN := hid hn
  have HBY := hid h.range
  have hrv := rn_val (m := 1048576) (s := (xs, false)) h.range
  obtain ⟨N0, s1, hrn⟩ : ∃ N0 s1, rn 1048576 (xs, false) = (N0, s1) := ⟨_, _, rfl⟩
  have hs1 := rn_vl (m := 1048576) (s := (xs, false)) ⟨h.range, fun e => by cases e⟩
  have hs1l := rn_short 1048576 (xs, false)
  rw [hrn] at hrv hs1 hs1l
  obtain ⟨n, rfl⟩ : ∃ n : Nat, N0 = n := ⟨N0.toNat, by have := hrv.1; simp at this; omega⟩
  have hn20 : n ≤ 1048576 := by have := hrv.2.2 (by decide); simp at this; omega
  have HRN := hid hrn
  have HS1 := hid hs1
  have HS1L := hid hs1l
  have HD := hid (decA_eq (m := mOwn) hrn)
  obtain ⟨D, hD⟩ : ∃ D, decA mOwn xs = D := ⟨_, rfl⟩
  rw [hD] at HD ⊢
  clear h hn hrv hrn hD hs1 hs1l hL
  go_enter Tryz.func62, Tryz.ntmps62
  go_wp2_with fail
  refine (at_any vb xs w HB.out (by have := HLN.out; omega)).mono ?_
  rintro e w2 ⟨c, rfl, hcB, hc, b2⟩
  have HA := ba w2 (rdo c)
  have X2 := hid (Cur.below hc HA)
  have B2 := hid (bt b2 HA)
  have R2 := hid (heap_alloc_new w2 (rdo c))
  have hrc : c ≠ w2.heap.size := by have := hc.lt; omega
  have hwr : w.heap.size ≤ w2.heap.size := b2.size
  clear hc b2 HA
  obtain ⟨r, hr⟩ : ∃ r, w2.heap.size = r := ⟨_, rfl⟩
  obtain ⟨W2, hW2⟩ : ∃ W2, w2.alloc (rdo c) = W2 := ⟨_, rfl⟩
  have x0 := cell_of_row _ _ 0 _ _ _ R2.out
  simp only [List.getElem?_toArray, List.getElem?_cons_zero] at x0
  rw [hW2, hr] at R2 x0
  rw [hW2] at X2 B2
  rw [hr] at hrc hwr
  go_upto_region 3 with fail
  clear hW2 hr
  go_wp2_with fail
  refine (num_s c (xs, false) 1048576 W2 X2.out).mono ?_
  rintro e w4 ⟨rfl, hx, hg⟩
  rw [HRN.out] at hx ⊢
  have B4 := hid (below_fr B2.out (Fr.grown hg) hcB)
  have X4 := hid hx
  have R4 : Hid (w4.heap[r]? = some (rdo c)) := (hg.block r (by have := (Array.getElem?_eq_some_iff.1 R2.out).1; exact this) (by simp; omega)).trans R2.out
  clear hx hg X2 B2 R2 x0
  go_wp2
  go_loopw [5,14] (fun v i wr => ∃ (j : Nat) (l : List (Opn × Value)) (q : St),j ≤ n ∧ i = .int .i64 j ∧ (∃ ra rc,v = .slice ra j rc) ∧ l.length = j ∧ rdA mOwn j s1 = some (fsts l,q) ∧ Cu wr c q ∧ Rw w.heap.size wr v l ∧ Below w.heap.size w wr ∧ wr.heap[r]? = some (rdo c) ∧ Nw w.heap.size l) (fun _ i _ => n - (intOf i).toNat)
  case atStart => exact ⟨0, [], s1, Nat.zero_le _, rfl, ⟨_, _, rfl⟩, rfl, rfl, X4.out, Rw.nil _ _, B4.out, R4.out, Nw.nil _⟩
  case round =>
    obtain ⟨j, l, q, hj, rfl, ⟨ra, rc, rfl⟩, hll, hrd, hx, hrw, hb, hrr, hnw⟩ := hrel
    have HNW := hid hnw
    clear hnw
    have HX := hid hx
    have HR := hid hrw
    have BB := hid hb
    have HRD := hid hrd
    have HLL := hid hll
    have HRR := hid hrr
    clear hrw hb hrd hll hx
    have x0 := cell_of_row wr r 0 _ _ _ hrr
    simp only [List.getElem?_toArray, List.getElem?_cons_zero] at x0
    clear hrr
    by_cases hlt : j < n
    · have b1' : (j : Int) < (n : Int) := by omega
      have hrr := HRD.out
      rw [rdA_same s1 HS1.out (Nat.le_trans HS1L.out HLN.out) j] at hrr
      have hok := rdA_ok s1 HS1.out (Nat.le_trans HS1L.out HLN.out) j _ _ hrr
      obtain ⟨t, q2, ht⟩ : ∃ t q2, rt (mOwn q) q = (t, q2) := ⟨_, _, rfl⟩
      obtain ⟨oo, ok, hoo⟩ : ∃ oo ok, decO Bnd.own (tx t) = (oo, ok) := ⟨_, _, rfl⟩
      have hst := rdA_step mOwn j s1 q (fsts l) HRD.out
      have hsh := (rt_short (mOwn q) q hok.1.1).1
      rw [ht] at hst hsh
      rw [hoo] at hst
      have HST := hid hst
      have HLE : Hid (l.length ≤ 1048576) := by show _ ≤ _; rw [HLL.out]; omega
      have HT := hid ht
      have HOO := hid hoo
      have HSH : Hid (t.size ≤ 1099511627776) := Nat.le_trans hsh hok.2
      clear ht hoo hst hsh hok hrr
      go_wp2_with fail
      refine region_d HRR.out hrc.symm HX.out HT.out HSH.out HOO.out (fun W hg => HL.out.below (below_fr BB.out (Fr.grown hg) hcB)) (fun _ _ _ _ _ h => h) (fun pb u vo W hr6 hg6 hc6 hk6 hn6 ho6 hp6 => ?_)
      have R6 := hid (HR.out.cur HX.out (by decide) hg6)
      have B6 := hid (below_fr BB.out (Fr.grown hg6) hcB)
      have AW6 : Hid (Aw (.slice ra j rc) (oo, vo)) := .inr (fun k hk e => by
        have h1 := hn6 k e
        have h2 := (HR.out.1.lt k hk).2
        omega)
      obtain ⟨va, vc, rfl, _⟩ := hk6.form
      have HN6 : Hid (∀ k, (Value.slice va oo.cuts.length vc).ownBlock = some k → w.heap.size ≤ k) := fun k hk => Nat.le_trans BB.out.size (hn6 k hk)
      have RR6 := hid hr6
      have X6 := hid hc6
      have C6 := hid hk6
      have O6 := hid ho6
      have hrl : r < W.heap.size := (Array.getElem?_eq_some_iff.1 hr6).1
      clear hr6 hg6 hc6 hk6 hn6 ho6 hp6 x0
      cases ok with
      | false =>
        have hd : D = ([], false) := by
          have h1 := HD.out
          rw [rdA_none mOwn (j + 1) n s1 (by rw [HST.out]; rfl) (by omega)] at h1
          exact h1
        have HDD := hid hd
        clear hd
        go_wp2
        go_ret2
        exact DF.no HDD.out B6.out
      | true =>
        go_wp2_with (first
          | (refine wpList_load_op rfl _ rfl _ rfl _ _ O6.out ?_)
          | (refine wpList_ops1 rfl _ rfl oo _ rfl ?_; have X10 := hid (Cur.below X6.out (ba W (opo oo (.slice va oo.cuts.length vc)))); have R10 := hid (R6.out.below (ba W (opo oo (.slice va oo.cuts.length vc)))); have O10 := hid (Os.one W oo _ C6.out); have B10 := hid (bt B6.out (ba W (opo oo (.slice va oo.cuts.length vc)))); have HS10 : Hid (w.heap.size ≤ (W.alloc (opo oo (.slice va oo.cuts.length vc))).heap.size) := B10.out.size; have RR10 : Hid ((W.alloc (opo oo (.slice va oo.cuts.length vc))).heap[r]? = some (rdo c)) := (Below.heap_alloc W _ r hrl).trans RR6.out)
          | (at_builtin; refine wpList_append_op rfl _ _ rfl w.heap.size (.slice ra j rc) l rfl R10.out _ (oo,.slice va oo.cuts.length vc) rfl O10.out AW6.out HLE.out HS10.out ?_; intro v11 w11 hR11 hf11 hv11; have R11 := hid hR11; have HF11 := hid hf11; obtain ⟨a11,c11,rfl⟩ := hR11.form; clear hR11 hf11 hv11))
        have X11 : Cu w11 c q2 := Cur.fr X10.out HF11.out (fun e => by
          obtain ⟨u, hu, _⟩ := X10.out
          exact own_far R10.out.1 hu (by decide) e) (fun k hk => R10.out.2.1 k hk)
        have B11 : Below w.heap.size w w11 := B10.out.trans (HF11.out.below (fun k hk e => by have := (R10.out.1.lt k e).1; omega) HS10.out)
        have RR11 : w11.heap[r]? = some (rdo c) := (HF11.out.block r (Array.getElem?_eq_some_iff.1 RR10.out).1 (own_far R10.out.1 RR10.out (by decide))).trans RR10.out
        have hl1 : (l ++ [(oo, Value.slice va oo.cuts.length vc)]).length = l.length + 1 := by simp
        have hR := R11.out
        rw [hl1] at hR
        have hlj := HLL.out
        refine ⟨⟨j + 1, l ++ [(oo, Value.slice va oo.cuts.length vc)], q2, by omega, by go_num, ⟨a11, c11, by rw [hlj]⟩, by rw [hl1, hlj], ?_, X11, hR, B11, RR11, HNW.out.snoc HN6.out⟩, by simp [intOf]; omega⟩
        rw [HST.out]
        simp [fsts]
    · obtain rfl : j = n := by omega
      have b1' : ¬ (j : Int) < (j : Int) := by omega
      have hd0 := HD.out
      rw [HRD.out] at hd0
      obtain ⟨qs, qb⟩ := q
      go_wp2_with fail
      refine (end_any c qs qb wr HX.out).mono ?_
      rintro e w5 ⟨rfl, rfl⟩
      cases hz : (!qb && qs.isEmpty) with
      | false =>
        have hd : D = ([], false) := by
          rw [hd0]
          simp only [hz]
          rfl
        have HDD := hid hd
        clear hd hd0 hz
        go_wp2
        go_ret2
        exact DF.no HDD.out BB.out
      | true =>
        have hd : D = (fsts l, true) := by
          rw [hd0]
          simp only [hz]
          rfl
        have HDD := hid hd
        clear hd hd0 hz
        go_wp2
        go_ret2
        exact DF.yes HDD.out HR.out.os BB.out HNW.out
end Go.Proofs.YteckjkblngmenaaGreatDoor

/-
  What oplog's clones returns is proved here: new ops, the same ones, whose cuts are new memory, too.
-/
namespace Go.Proofs.YteckjkblngmenaaGreatDoor
open Go.RowKit
set_option linter.unusedVariables false
set_option maxRecDepth 100000

theorem Fr.of_setCells (g : Nat) : ∀ (vs : List Value) (o : Nat) (w : World), Fr (fun k => k = g) w (w.setCells g o vs)
  | [], _, w => Fr.refl _ w
  | v :: r, o, w => (Fr.of_set w g o v).trans (Fr.of_setCells g r (o + 1) _) (fun _ _ h => h)
theorem setCells_row (g : Nat) (t : TypeId) : ∀ (vs : List Value) (o : Nat) (w : World) (cur : Array Value), w.heap[g]? = some (.cells cur t (0, 0)) →
    ∃ cur', (w.setCells g o vs).heap[g]? = some (.cells cur' t (0, 0)) ∧ cur'.size = cur.size ∧ (∀ j, j < o → cur'[j]? = cur[j]?) ∧ ∀ j, j < vs.length → o + j < cur.size → cur'[o + j]? = vs[j]?
  | [], o, w, cur, hg => ⟨cur, hg, rfl, fun _ _ => rfl, fun j hj => by cases hj⟩
  | v :: r, o, w, cur, hg => by
    obtain ⟨cur', h1, h2, h3, h4⟩ := setCells_row g t r (o + 1) (w.setCell ⟨g, o, none⟩ v) (cur.setIfInBounds o v) (heap_setCell_same w g o cur t v hg)
    refine ⟨cur', h1, by rw [h2, Array.size_setIfInBounds], fun j hj => ?_, fun j hj hs => ?_⟩
    · rw [h3 j (by omega), Array.getElem?_setIfInBounds]
      rw [if_neg (by omega)]
    · cases j with
      | zero =>
        rw [Nat.add_zero, h3 o (by omega), Array.getElem?_setIfInBounds, if_pos rfl, if_pos (by simpa using hs)]
        rfl
      | succ j =>
        have := h4 j (by simpa using hj) (by rw [Array.size_setIfInBounds]; omega)
        rw [show o + (j + 1) = o + 1 + j by omega, this]
        rfl
/-- A list that lies above a place, with its cuts. -/
def Nn (B : Nat) (v : Value) (l : List (Opn × Value)) : Prop := (∀ k, v.ownBlock = some k → B ≤ k) ∧ Nw B l
theorem opc_len (p : Opn × Value) : (opc p).length = 20 := rfl
/-- A row of ops that is filled up to a place. -/
theorem row_next {cur cur' : Array Value} {l : List (Opn × Value)} {p : Opn × Value} {n : Nat} (hs : cur'.size = cur.size) (hc : cur.size = n * 20) (hl : l.length < n) (ht : cur.toList.take (l.length * 20) = l.flatMap opc)
    (h1 : ∀ j, j < l.length * 20 → cur'[j]? = cur[j]?) (h2 : ∀ j, j < (opc p).length → l.length * 20 + j < cur.size → cur'[l.length * 20 + j]? = (opc p)[j]?) : cur'.toList.take ((l.length + 1) * 20) = (l ++ [p]).flatMap opc := by
  have hfl := flat_length opc 20 opc_len l
  have hfm : (l ++ [p]).flatMap opc = l.flatMap opc ++ opc p := by rw [List.flatMap_append, List.flatMap_cons, List.flatMap_nil, List.append_nil]
  rw [hfm]
  apply List.ext_getElem?
  intro j
  rw [List.getElem?_take]
  by_cases hj : j < (l.length + 1) * 20
  · rw [if_pos hj]
    by_cases hj2 : j < l.length * 20
    · rw [List.getElem?_append_left (by omega), ← ht, List.getElem?_take, if_pos hj2, Array.getElem?_toList, Array.getElem?_toList, h1 j hj2]
    · rw [List.getElem?_append_right (by omega), hfl, Array.getElem?_toList]
      have hlen := opc_len p
      have := h2 (j - l.length * 20) (by omega) (by omega)
      rw [show l.length * 20 + (j - l.length * 20) = j by omega] at this
      exact this
  · rw [if_neg hj, List.getElem?_eq_none]
    rw [List.length_append, hfl, opc_len]
    omega

/-- An op is stored at a place of a row. -/
theorem wpList_store_opat {ops : Array Oper} {rest : List Oper} {p : Oper} {a : Act} {w : World} {Q : Exit → Act → World → Prop} (hgd : p.guard = none) (x y : Operand) (ho : p.op = .store 77 x y)
    (g off : Nat) (hx : a.eval x = .pointer (some ⟨g, off, none⟩)) (o : Opn) (u : Value) (hu : ∃ va n vc, u = .slice va n vc) (hy : a.eval y = opv o u) (cur : Array Value) (hg : w.heap[g]? = some (.cells cur 77 (0, 0))) (hs : off + 20 ≤ cur.size)
    (hk : ∀ W' cur',W'.heap[g]? = some (.cells cur' 77 (0,0)) → cur'.size = cur.size → (∀ j,j < off → cur'[j]? = cur[j]?) → (∀ j,j < (opc (o,u)).length → off + j < cur.size → cur'[off + j]? = (opc (o,u))[j]?) → Fr (fun k => k = g) w W' → wpList Tryz.prog ops Q rest (a.put p.dst undef) W') : wpList Tryz.prog ops Q (p :: rest) a w := by
  have hth : w.there g off (opl o u).size := fun j hj => by
    have hj' : j < 20 := hj
    refine ⟨?_, frozen_of_row w _ _ _ _ hg⟩
    rw [cell_of_row w _ _ _ _ _ hg, Array.getElem?_eq_getElem (by omega)]
    rfl
  refine wpList_store_mid hgd 77 x y ho g off (opl o u) hx hy hth (by kernel_rfl) (by obtain ⟨va, n, vc, rfl⟩ := hu; simp [Value.oneCell']) ?_
  obtain ⟨cur', h1, h2, h3, h4⟩ := setCells_row g 77 (opl o u).toList off w cur hg
  exact hk _ cur' h1 h2 h3 h4 (Fr.of_setCells g _ _ w)

set_option maxHeartbeats 4000000 in
theorem clones_any (v : Value) (l : List (Opn × Value)) (w : World) (hO : Os w v l) (hf : ∀ p ∈ l, p.1.fine ∧ p.1.cuts.length ≤ 100000) (hn : l.length ≤ 10000000) :
    Calls Tryz.prog 53 #[v] w fun e w' => ∃ v', e = .returned v' ∧ ∃ l', Os w' v' l' ∧ fsts l' = fsts l ∧ Nn w.heap.size v' l' ∧ Below w.heap.size w w' := by
  obtain ⟨a, c, rfl, _, _⟩ := Sl.form hO.1
  obtain ⟨n, hnn⟩ : ∃ n, l.length = n := ⟨_, rfl⟩
  have HN := hid hnn
  have hcell : ∀ i (h : i < l.length), ∃ b off, a = some ⟨b, off, none⟩ ∧ b < w.heap.size ∧ ∀ j, j < 20 → w.cell? ⟨b, off + i * 20 + j, none⟩ = (opl (l[i]).1 (l[i]).2)[j]? := by
    intro i h
    obtain ⟨b, off, c', e, _, _, hb, hc⟩ := hO.inv (by omega)
    simp only [Value.slice.injEq] at e
    exact ⟨b, off, e.1, hb, hc i h⟩
  have HCE := hid hcell
  have HV := hid hO.2
  have HF := hid hf
  rw [hnn] at hn ⊢
  obtain ⟨i0, hi, hz0, hz1, hz2⟩ := info_parts info_op
  have hmk : i0.bytes * n ≤ 281474976710656 := by rw [hz2]; omega
  have hkm : n ≤ maxLen := by unfold maxLen; omega
  clear hcell hO hf hnn
  go_enter Tryz.func53, Tryz.ntmps53
  go_wp2_with (at_make; refine wpList_make_full _ rfl (.tmp 7) (.tmp 7) 38 rfl w.heap.size 77 i0 _ 20 Tryz.underlying38 hi hz0 hz1 .i64 .i64 _ _ n rfl rfl rfl rfl hmk hkm (Nat.le_refl _) ?_; intro w2 hown hgrow)
  have hb2 : Below w.heap.size w w2 := (Below.refl _ w).grown hgrow (Nat.le_refl _) (by intro k hk; cases hk)
  have hrow : ∃ cur : Array Value, w2.heap[w.heap.size]? = some (.cells cur 77 (0, 0)) ∧ cur.size = n * 20 := by
    rcases hown.2 with ⟨e, _⟩ | ⟨g', cap, cur, e, _, hg, _, _, hcs, _⟩
    · cases e
    · simp only [Value.slice.injEq, Option.some.injEq, Addr.mk.injEq, and_true, true_and] at e
      obtain ⟨rfl, rfl⟩ := e
      exact ⟨cur, hg, hcs⟩
  have HR2 := hid hrow
  have HB2 := hid hb2
  clear hown hgrow hrow hb2 hz0 hz1 hz2 hi hmk i0
  go_loopw [11] (fun i wr => ∃ (k : Nat) (l' : List (Opn × Value)) (cur : Array Value),k ≤ n ∧ i = .int .i64 k ∧ l'.length = k ∧ fsts l' = fsts (l.take k) ∧ wr.heap[w.heap.size]? = some (.cells cur 77 (0,0)) ∧ cur.size = n * 20 ∧ cur.toList.take (k * 20) = l'.flatMap opc ∧ (∀ p ∈ l',Cs wr p.2 p.1.cuts) ∧ Nw (w.heap.size + 1) l' ∧ Below w.heap.size w wr) (fun i _ => n - (intOf i).toNat)
  case atStart =>
    obtain ⟨cur, h1, h2⟩ := HR2.out
    exact ⟨0, [], cur, Nat.zero_le _, rfl, rfl, rfl, h1, h2, (by simp), (fun p hp => by cases hp), Nw.nil _, HB2.out⟩
  case round =>
    obtain ⟨k, l', cur, hk, rfl, hl', hfs, hcur, hcs, hct, hcu, hnw, hb⟩ := hrel
    have HL := hid hl'
    have HFS := hid hfs
    have HCUR := hid hcur
    have HCS0 := hid hcs
    have HCT := hid hct
    have HCU := hid hcu
    have HNW := hid hnw
    have B4 := hid hb
    clear hl' hfs hcur hcs hct hcu hnw hb
    by_cases hlt : k < n
    · have hx : k < l.length := by have := HN.out; omega
      obtain ⟨b, off, ha, hbl, hc⟩ := HCE.out k hx
      subst ha
      obtain ⟨⟨o, v⟩, hp⟩ : ∃ p, l[k] = p := ⟨_, rfl⟩
      have hfin := HF.out _ (List.getElem_mem hx)
      have hcs := HV.out _ (List.getElem_mem hx)
      rw [hp] at hc hfin hcs
      dsimp only at hc hfin hcs
      have HP := hid hp
      have HC : Hid (∀ j, j < 20 → wr.cell? ⟨b, off + k * 20 + j, none⟩ = (opl o v)[j]?) := hid (fun j hj => (B4.out.cell hbl).trans (hc j hj))
      have HFI := hid hfin
      have HCS := hid (hcs.below B4.out)
      have hvf : ∃ va n vc, v = .slice va n vc := by
        obtain ⟨va, vc, e, _⟩ := hcs.form
        exact ⟨va, _, vc, e⟩
      have HVF := hid hvf
      have HA5 := hid (ba wr (opo o v))
      have HO5 := hid (Ob.new wr o v)
      have HCS5 := hid (HCS.out.below HA5.out)
      have B5 := hid (bt B4.out HA5.out)
      have HCU5 : Hid (∀ p ∈ l', Cs (wr.alloc (opo o v)) p.2 p.1.cuts) := hid (fun p hp => (HCU.out p hp).below HA5.out)
      have HCUR5 : Hid ((wr.alloc (opo o v)).heap[w.heap.size]? = some (.cells cur 77 (0, 0))) := hid ((HA5.out.block _ (Array.getElem?_eq_some_iff.1 HCUR.out).1).trans HCUR.out)
      have HS5 : Hid (w.heap.size + 1 ≤ (wr.alloc (opo o v)).heap.size) := hid (by have := (Array.getElem?_eq_some_iff.1 HCUR5.out).1; omega)
      have b1' : (k : Int) < (n : Int) := by omega
      clear hp hc hfin hcs hvf hbl
      have HE := hid (clone_new (opv o v) o v rfl _ HCS5.out HFI.out.1 HFI.out.2)
      go_wp2_with (first | (refine wpList_val _ rfl (run_load_opat rfl rfl HC.out) ?_) | (refine wpList_store_ops rfl _ _ rfl 0 o v HVF.out rfl rfl ?_) | (refine wpList_load_op rfl _ rfl wr.heap.size rfl o v HO5.out ?_) | fail)
      refine HE.out.mono ?_
      rintro e w6 ⟨u, rfl, hcs6, hb6, hnu⟩
      obtain ⟨ua, uc, hu, _⟩ := hcs6.form
      have HU := hid hcs6
      have HNU : Hid (∀ k, u.ownBlock = some k → w.heap.size + 1 ≤ k) := hid (fun k hk => Nat.le_trans HS5.out (hnu k hk))
      have HUF : Hid (∃ va n vc, u = .slice va n vc) := hid ⟨_, _, _, hu⟩
      have B6 := hid (bt B5.out hb6)
      have HCUR6 : Hid (w6.heap[w.heap.size]? = some (.cells cur 77 (0, 0))) := hid ((hb6.block _ (Array.getElem?_eq_some_iff.1 HCUR5.out).1).trans HCUR5.out)
      have HCU6 : Hid (∀ p ∈ l', Cs w6 p.2 p.1.cuts) := hid (fun p hp => (HCU5.out p hp).below hb6)
      have HTH : Hid (k * 20 + 20 ≤ cur.size) := hid (by have := HCS0.out; omega)
      clear HE hcs6 hb6 hnu HCU5 HCUR5 HO5 HCS5 hu
      go_wp2_with (first | (refine wpList_store_opat rfl _ _ rfl w.heap.size (k * 20) rfl o u HUF.out rfl cur HCUR6.out HTH.out ?_; intro w7 cur' h71 h72 h73 h74 h75; have C7 := hid h71; have S7 := hid h72; have A7 := hid h73; have N7 := hid h74; have F7 := hid h75; clear h71 h72 h73 h74 h75) | fail)
      go_roundw
      case rel =>
        have hl := HL.out
        subst hl
        have htk : fsts (l.take (l'.length + 1)) = fsts (l.take l'.length) ++ [o] := by
          unfold fsts
          rw [List.take_succ_eq_append_getElem hx, List.map_append, HP.out]
          rfl
        have hcs7 : ∀ p ∈ l' ++ [(o, u)], Cs w7 p.2 p.1.cuts := by
          intro p hp
          have hnp : ∀ k, p.2.ownBlock = some k → w.heap.size + 1 ≤ k := by
            rcases List.mem_append.1 hp with hp | hp
            · exact HNW.out p hp
            · rw [List.mem_singleton.1 hp]; exact HNU.out
          have hcp : Cs w6 p.2 p.1.cuts := by
            rcases List.mem_append.1 hp with hp | hp
            · exact HCU6.out p hp
            · rw [List.mem_singleton.1 hp]; exact HU.out
          exact Sl.kept hcp (fun k hk hlt => F7.out.block k hlt (by have := hnp k hk; omega))
        refine ⟨l'.length + 1, l' ++ [(o, u)], cur', by omega, by go_num, by simp, ?_, C7.out, S7.out.trans HCS0.out, row_next S7.out HCS0.out hlt HCT.out A7.out N7.out, hcs7, HNW.out.snoc HNU.out, ?_⟩
        · rw [htk, ← HFS.out]
          simp [fsts]
        · exact B6.out.trans (F7.out.below (fun k hk e => by omega) B6.out.size)
      case measure => simp [intOf]; omega
    · have b1' : ¬ (k : Int) < (n : Int) := by omega
      have e1 : k = n := by omega
      subst e1
      have htk : l.take k = l := List.take_of_length_le (by have := HN.out; omega)
      rw [htk] at HFS
      go_wp2
      go_ret
      refine ⟨_, rfl, l', ⟨?_, HCU.out⟩, HFS.out, ⟨fun k hk => by simp [Value.ownBlock] at hk; omega, fun p hp q hq => Nat.le_of_succ_le (HNW.out p hp q hq)⟩, B4.out⟩
      have hl := HL.out
      subst hl
      refine ⟨flat_length opc 20 opc_len l', some ⟨w.heap.size, 0, none⟩, l'.length, rfl, Nat.le_refl _, hkm, (fun e => by cases e), fun j u hu => ⟨_, 0, rfl, ?_⟩⟩
      rw [Nat.zero_add, cell_of_row wr _ _ _ _ _ HCUR.out]
      rw [← HCT.out, List.getElem?_take] at hu
      by_cases hj : j < l'.length * 20
      · rw [if_pos hj] at hu; simpa using hu
      · rw [if_neg hj] at hu; cases hu
end Go.Proofs.YteckjkblngmenaaGreatDoor

/-
  What a log's Count, Synced, Sync, Replica and Ops do is proved here.
-/
namespace Go.Proofs.YteckjkblngmenaaGreatDoor
open Go.RowKit
set_option linter.unusedVariables false
set_option maxRecDepth 100000

theorem inF_le (es : List (Nat × Nat)) (s : Int) : inF es s ≤ es.length := List.countP_le_length

section
variable {B : Nat} {w : World} {lb fb : Nat} {fv vo ve : Value} {xs : List Int} {n R : Nat} {r : Int} {l : List (Opn × Value)} {es : List (Nat × Nat)}
theorem Lg.c0 (h : Lg B w lb fb fv vo ve xs n R r l es) : w.cell? ⟨lb, 0, none⟩ = some (.pointer (some ⟨fb, 0, none⟩)) := by rw [cell_of_row w lb 0 _ _ _ h.blk]; rfl
theorem Lg.c1 (h : Lg B w lb fb fv vo ve xs n R r l es) : w.cell? ⟨lb, 1, none⟩ = some (.int .i64 r) := by rw [cell_of_row w lb 1 _ _ _ h.blk]; rfl

set_option maxHeartbeats 2000000 in
theorem count_any (h : Lg B w lb fb fv vo ve xs n R r l es) (hs : es.Pairwise (fun p q => p.1 ≤ q.1)) (hl : es.length ≤ 10000000) :
    Calls Tryz.prog 32 #[.pointer (some ⟨lb, 0, none⟩)] w fun e w' => e = .returned (.int .i64 (opsAt es (inF es (xs.length : Nat)) : Nat)) ∧ Below w.heap.size w w' := by
  have HL := hid h
  have HS := hid hs
  have c0 := h.c0
  have HI := hid (inF_le es (xs.length : Nat))
  have HF := hid (frames_any h (xs.length : Nat) hs hl)
  clear h hs
  generalize inF es (xs.length : Nat) = k at HI HF ⊢
  go_enter Tryz.func32, Tryz.ntmps32
  go_wp2_with fail
  refine (fsize_any HL.out.fi).mono ?_
  rintro e w1 ⟨rfl, rfl⟩
  go_wp2_with fail
  refine HF.out.mono ?_
  rintro e w2 ⟨rfl, b2⟩
  have HL2 := hid (HL.out.below b2)
  have B2 := hid b2
  clear b2
  go_wp2_with fail
  refine (opsof_any HL2.out k HI.out hl).mono ?_
  rintro e w3 ⟨rfl, rfl⟩
  go_wp2
  go_ret
  exact ⟨rfl, B2.out⟩

set_option maxHeartbeats 2000000 in
theorem lsynced_any (h : Lg B w lb fb fv vo ve xs n R r l es) (hs : es.Pairwise (fun p q => p.1 ≤ q.1)) (hl : es.length ≤ 10000000) :
    Calls Tryz.prog 34 #[.pointer (some ⟨lb, 0, none⟩)] w fun e w' => e = .returned (.int .i64 (opsAt es (inF es (n : Nat)) : Nat)) ∧ Below w.heap.size w w' := by
  have HL := hid h
  have HS := hid hs
  have c0 := h.c0
  have HI := hid (inF_le es (n : Nat))
  have HF := hid (frames_any h (n : Nat) hs hl)
  clear h hs
  generalize inF es (n : Nat) = k at HI HF ⊢
  go_enter Tryz.func34, Tryz.ntmps34
  go_wp2_with fail
  refine (synced_any HL.out.fi).mono ?_
  rintro e w1 ⟨rfl, rfl⟩
  go_wp2_with fail
  refine HF.out.mono ?_
  rintro e w2 ⟨rfl, b2⟩
  have HL2 := hid (HL.out.below b2)
  have B2 := hid b2
  clear b2
  go_wp2_with fail
  refine (opsof_any HL2.out k HI.out hl).mono ?_
  rintro e w3 ⟨rfl, rfl⟩
  go_wp2
  go_ret
  exact ⟨rfl, B2.out⟩

set_option maxHeartbeats 2000000 in
theorem replica_any (h : Lg B w lb fb fv vo ve xs n R r l es) :
    Calls Tryz.prog 33 #[.pointer (some ⟨lb, 0, none⟩)] w fun e w' => e = .returned (.int .i64 r) ∧ w = w' := by
  have c1 := h.c1
  clear h
  go_enter Tryz.func33, Tryz.ntmps33
  go_wp2
  go_ret
  exact ⟨rfl, rfl⟩

set_option maxHeartbeats 2000000 in
theorem lsync_any (h : Lg B w lb fb fv vo ve xs n R r l es) :
    Calls Tryz.prog 18 #[.pointer (some ⟨lb, 0, none⟩)] w fun e w' => e = .returned (.tuple #[]) ∧ Lg B w' lb fb fv vo ve xs xs.length R r l es ∧ Lx (Ft lb fb fv vo ve) (Ft lb fb fv vo ve) w w' := by
  have HL := hid h
  have c0 := h.c0
  clear h
  go_enter Tryz.func18, Tryz.ntmps18
  go_wp2_with fail
  refine (sync_any HL.out.fi).mono ?_
  rintro e w1 ⟨rfl, hf, hx⟩
  have H := hid (HL.out.file hf hx)
  clear hf hx
  go_wp2_with fail
  go_end0
  exact ⟨rfl, H.out⟩
end

theorem Nw.mono {B C : Nat} {l : List (Opn × Value)} (h : Nw B l) (hc : C ≤ B) : Nw C l := fun p hp k hk => Nat.le_trans hc (h p hp k hk)
theorem Nn.mono {B C : Nat} {v : Value} {l : List (Opn × Value)} (h : Nn B v l) (hc : C ≤ B) : Nn C v l := ⟨fun k hk => Nat.le_trans hc (h.1 k hk), h.2.mono hc⟩
def ao0 : Oper := { dst := some 3, op := Op.move (Operand.tmp 0), type := 32, pos := "oplog.go:114", after := #[], guard := none }
def ao1 : Oper := { dst := some 4, op := Op.nilCheck (Operand.tmp 3), type := 0, pos := "oplog.go:114", after := #[{ on := 0, ground := Ground.data }], guard := none }
def ao2 : Oper := { dst := some 5, op := Op.fieldAddr 83 (Operand.tmp 4) 2, type := 0, pos := "oplog.go:114", after := #[{ on := 1, ground := Ground.data }], guard := none }
def ao3 : Oper := { dst := some 6, op := Op.load 38 (Operand.tmp 5), type := 38, pos := "oplog.go:114", after := #[{ on := 2, ground := Ground.data }], guard := none }
def ao4 : Oper := { dst := some 7, op := Op.move (Operand.tmp 0), type := 32, pos := "oplog.go:114", after := #[], guard := none }
def ao5 : Oper := { dst := some 8, op := Op.call { callee := Callee.value (Operand.func 32), args := #[Operand.tmp 7], argTypes := #[32] }, type := 3, pos := "oplog.go:114", after := #[{ on := 4, ground := Ground.data }], guard := none }
def ao6 : Oper := { dst := some 9, op := Op.slice 38 (Operand.tmp 6) none (some (Operand.tmp 8)) none, type := 38, pos := "oplog.go:114", after := #[{ on := 3, ground := Ground.data }, { on := 5, ground := Ground.data }], guard := none }
def ao7 : Oper := { dst := some 10, op := Op.call { callee := Callee.value (Operand.func 53), args := #[Operand.tmp 9], argTypes := #[38] }, type := 38, pos := "oplog.go:114", after := #[{ on := 6, ground := Ground.data }, { on := 5, ground := Ground.chain }], guard := none }
def ao8 : Oper := { dst := some 2,op := Op.assign (Operand.tmp 10),type := 38,pos := "oplog.go:114",after := #[{ on := 7,ground := Ground.data },{ on := 7,ground := Ground.chain },{ on := 0,ground := Ground.phase },{ on := 1,ground := Ground.phase },{ on := 2,ground := Ground.phase },{ on := 3,ground := Ground.phase },{ on := 4,ground := Ground.phase },{ on := 5,ground := Ground.phase },{ on := 6,ground := Ground.phase },{ on := 7,ground := Ground.phase }],guard := none }
def aos : Array Oper := #[ao0, ao1, ao2, ao3, ao4, ao5, ao6, ao7, ao8]
theorem ao_lit : Region.noSelect aos = true := by kernel_rfl

set_option maxHeartbeats 4000000 in
theorem ops_r1 {B : Nat} {w : World} {lb fb : Nat} {fv vo ve : Value} {xs : List Int} {n R : Nat} {r : Int} {l : List (Opn × Value)} {es : List (Nat × Nat)} {x1 x2 x3 x4 x5 x6 x7 x8 x9 x10 : Value} {Q : Exit → Act → World → Prop} (hl0 : Lg B w lb fb fv vo ve xs n R r l es) (hs : es.Pairwise (fun p q => p.1 ≤ q.1)) (hop : opsAt es (inF es (xs.length : Nat)) = l.length) (hf : ∀ p ∈ l,p.1.fine ∧ p.1.cuts.length ≤ 100000) (hln : l.length ≤ 10000000) (hen : es.length ≤ 10000000)
    (hP : ∀ c t t' d W, Q (.panic c) { tmps := t, defers := d } W → Q (.panic c) { tmps := t', defers := d } W)
    (hQ : ∀ v l' W,Os W v l' → fsts l' = fsts l → Nn w.heap.size v l' → Below w.heap.size (World.drew w) W → Q .normal { tmps := #[.pointer (some ⟨lb,0,none⟩),x1,v,.pointer (some ⟨lb,0,none⟩),.pointer (some ⟨lb,0,none⟩),.pointer (some ⟨lb,2,none⟩),vo,.pointer (some ⟨lb,0,none⟩),.int .i64 (l.length : Nat),vo,v],defers := [] } W) : (Code.region 1 aos true).wp Tryz.prog Q { tmps := #[.pointer (some ⟨lb,0,none⟩),x1,x2,x3,x4,x5,x6,x7,x8,x9,x10],defers := [] } w := by
  obtain ⟨va, vc, hvo, hvc⟩ := own_cap2 hl0.ro
  refine wp_region_held (S := fun W => Lg B W lb fb fv vo ve xs n R r l es) (by kernel_rfl) ?_
  change wpAnyH _ _ _ _ _ 9 _ _ (World.drew _)
  have hS : Lg B (World.drew w) lb fb fv vo ve xs n R r l es := hl0.drewN 1
  clear hl0
  obtain ⟨W0, hW⟩ : ∃ W, World.drew w = W := ⟨_, rfl⟩
  rw [show w.heap.size = (World.drew w).heap.size from rfl, hW] at hQ
  rw [hW] at hS ⊢
  clear hW
  refine wpAnyH_take (i := 0) (oi := ao0) (v := .pointer (some ⟨lb, 0, none⟩)) (by kernel_rfl) ao_lit (by kernel_rfl) (by kernel_rfl) (fun c a W h => hP c _ _ _ W h) (Or.inl ⟨by kernel_rfl, fun W hW => by kernel_rfl⟩) hS ?_
  rw [show Act.put _ ao0.dst _ = { tmps := #[.pointer (some ⟨lb, 0, none⟩), x1, x2, .pointer (some ⟨lb, 0, none⟩), x4, x5, x6, x7, x8, x9, x10], defers := [] } from by kernel_rfl]
  refine wpAnyH_take (i := 1) (oi := ao1) (v := .pointer (some ⟨lb, 0, none⟩)) (by kernel_rfl) ao_lit (by kernel_rfl) (by kernel_rfl) (fun c a W h => hP c _ _ _ W h) (Or.inl ⟨by kernel_rfl, fun W hW => by kernel_rfl⟩) hS ?_
  rw [show Act.put _ ao1.dst _ = { tmps := #[.pointer (some ⟨lb, 0, none⟩), x1, x2, .pointer (some ⟨lb, 0, none⟩), .pointer (some ⟨lb, 0, none⟩), x5, x6, x7, x8, x9, x10], defers := [] } from by kernel_rfl]
  refine wpAnyH_take (i := 2) (oi := ao2) (v := .pointer (some ⟨lb, 2, none⟩)) (by kernel_rfl) ao_lit (by kernel_rfl) (by kernel_rfl) (fun c a W h => hP c _ _ _ W h) (Or.inl ⟨by kernel_rfl, fun W hW => by kernel_rfl⟩) hS ?_
  rw [show Act.put _ ao2.dst _ = { tmps := #[.pointer (some ⟨lb, 0, none⟩), x1, x2, .pointer (some ⟨lb, 0, none⟩), .pointer (some ⟨lb, 0, none⟩), .pointer (some ⟨lb, 2, none⟩), x6, x7, x8, x9, x10], defers := [] } from by kernel_rfl]
  refine wpAnyH_take (i := 3) (oi := ao3) (v := vo) (by kernel_rfl) ao_lit (by kernel_rfl) (by kernel_rfl) (fun c a W h => hP c _ _ _ W h) (Or.inl ⟨by kernel_rfl, fun W hW => run_ldo rfl rfl hW.c2⟩) hS ?_
  rw [show Act.put _ ao3.dst _ = { tmps := #[.pointer (some ⟨lb, 0, none⟩), x1, x2, .pointer (some ⟨lb, 0, none⟩), .pointer (some ⟨lb, 0, none⟩), .pointer (some ⟨lb, 2, none⟩), vo, x7, x8, x9, x10], defers := [] } from by kernel_rfl]
  refine wpAnyH_take (i := 4) (oi := ao4) (v := .pointer (some ⟨lb, 0, none⟩)) (by kernel_rfl) ao_lit (by kernel_rfl) (by kernel_rfl) (fun c a W h => hP c _ _ _ W h) (Or.inl ⟨by kernel_rfl, fun W hW => by kernel_rfl⟩) hS ?_
  rw [show Act.put _ ao4.dst _ = { tmps := #[.pointer (some ⟨lb, 0, none⟩), x1, x2, .pointer (some ⟨lb, 0, none⟩), .pointer (some ⟨lb, 0, none⟩), .pointer (some ⟨lb, 2, none⟩), vo, .pointer (some ⟨lb, 0, none⟩), x8, x9, x10], defers := [] } from by kernel_rfl]
  refine wpAnyH_all (rs := [5]) (by kernel_rfl) (by simp) (fun i hi => ?_)
  obtain rfl := List.mem_singleton.1 hi
  refine hb_callx (o := ao5) (f := 32) (args := #[.pointer (some ⟨lb, 0, none⟩)]) (D := fun v V => v = .int .i64 (l.length : Nat) ∧ Below W0.heap.size W0 V) (by kernel_rfl) (by kernel_rfl) (by kernel_rfl) ?hc ?_
  case hc => exact (count_any hS hs hen).mono fun e V ⟨h1, h2⟩ => ⟨_, h1, by rw [hop], h2⟩
  rintro v W1 ⟨rfl, b1⟩
  rw [show Act.put _ ao5.dst _ = { tmps := #[.pointer (some ⟨lb, 0, none⟩), x1, x2, .pointer (some ⟨lb, 0, none⟩), .pointer (some ⟨lb, 0, none⟩), .pointer (some ⟨lb, 2, none⟩), vo, .pointer (some ⟨lb, 0, none⟩), .int .i64 (l.length : Nat), x9, x10], defers := [] } from by kernel_rfl]
  have hS1 := hS.below b1
  refine ⟨hS1, ?_⟩
  refine wpAnyH_take (i := 6) (oi := ao6) (v := vo) (by kernel_rfl) ao_lit (by kernel_rfl) (by kernel_rfl) (fun c a W h => hP c _ _ _ W h) (Or.inl ⟨by kernel_rfl, fun W hW => run_slfo rfl rfl rfl hvo hvc⟩) hS1 ?_
  rw [show Act.put _ ao6.dst _ = { tmps := #[.pointer (some ⟨lb, 0, none⟩), x1, x2, .pointer (some ⟨lb, 0, none⟩), .pointer (some ⟨lb, 0, none⟩), .pointer (some ⟨lb, 2, none⟩), vo, .pointer (some ⟨lb, 0, none⟩), .int .i64 (l.length : Nat), vo, x10], defers := [] } from by kernel_rfl]
  refine wpAnyH_all (rs := [7]) (by kernel_rfl) (by simp) (fun i hi => ?_)
  obtain rfl := List.mem_singleton.1 hi
  refine hb_callx (o := ao7) (f := 53) (args := #[vo]) (D := fun v V => ∃ l', Os V v l' ∧ fsts l' = fsts l ∧ Nn W1.heap.size v l' ∧ Below W1.heap.size W1 V) (by kernel_rfl) (by kernel_rfl) (by kernel_rfl) ?hd ?_
  case hd => exact (clones_any vo l W1 hS1.os hf hln).mono fun e V ⟨v, h1, h2⟩ => ⟨v, h1, h2⟩
  rintro v W2 ⟨l', ho, hfs, hnw, b2⟩
  rw [show Act.put _ ao7.dst _ = { tmps := #[.pointer (some ⟨lb, 0, none⟩), x1, x2, .pointer (some ⟨lb, 0, none⟩), .pointer (some ⟨lb, 0, none⟩), .pointer (some ⟨lb, 2, none⟩), vo, .pointer (some ⟨lb, 0, none⟩), .int .i64 (l.length : Nat), vo, v], defers := [] } from by kernel_rfl]
  have hS2 := hS1.below b2
  refine ⟨hS2, ?_⟩
  refine wpAnyH_take (i := 8) (oi := ao8) (v := v) (by kernel_rfl) ao_lit (by kernel_rfl) (by kernel_rfl) (fun c a W h => hP c _ _ _ W h) (Or.inl ⟨by kernel_rfl, fun W hW => by kernel_rfl⟩) hS2 ?_
  rw [show Act.put _ ao8.dst _ = { tmps := #[.pointer (some ⟨lb, 0, none⟩), x1, v, .pointer (some ⟨lb, 0, none⟩), .pointer (some ⟨lb, 0, none⟩), .pointer (some ⟨lb, 2, none⟩), vo, .pointer (some ⟨lb, 0, none⟩), .int .i64 (l.length : Nat), vo, v], defers := [] } from by kernel_rfl]
  exact wpAnyH_done (by kernel_rfl) (hQ v l' W2 ho hfs (Nn.mono hnw b1.size) (bt b1 b2)) _

set_option maxHeartbeats 2000000 in
theorem ops_any {B : Nat} {w : World} {lb fb : Nat} {fv vo ve : Value} {xs : List Int} {n R : Nat} {r : Int} {l : List (Opn × Value)} {es : List (Nat × Nat)} (h : Lg B w lb fb fv vo ve xs n R r l es) (hs : es.Pairwise (fun p q => p.1 ≤ q.1)) (hop : opsAt es (inF es (xs.length : Nat)) = l.length) (hf : ∀ p ∈ l,p.1.fine ∧ p.1.cuts.length ≤ 100000) (hln : l.length ≤ 10000000) (hen : es.length ≤ 10000000) :
    Calls Tryz.prog 36 #[.pointer (some ⟨lb, 0, none⟩)] w fun e w' => ∃ v', e = .returned v' ∧ ∃ l', Os w' v' l' ∧ fsts l' = fsts l ∧ Nn w.heap.size v' l' ∧ Below w.heap.size w w' := by
  have HL := hid h
  have HS := hid hs
  have HOP := hid hop
  have HF := hid hf
  clear h hs hop hf
  go_enter Tryz.func36, Tryz.ntmps36
  go_wp2_with fail
  refine ops_r1 HL.out HS.out HOP.out HF.out hln hen (fun _ _ _ _ _ h => h) (fun v l' W ho hfs hnw hb => ?_)
  have HO := hid ho
  have HFS := hid hfs
  have HN := hid hnw
  have HB : Hid (Below w.heap.size w W) := hid (bt (bd w 1) hb)
  clear ho hfs hnw hb
  go_wp2_with fail
  go_ret
  exact ⟨_, rfl, l', HO.out, HFS.out, HN.out, HB.out⟩
end Go.Proofs.YteckjkblngmenaaGreatDoor

/-
  A log that is as it should be ('Lo'): its file's bytes, its ops and its ends are those of its frames. What Format and Append make of it.
-/
namespace Go.Proofs.YteckjkblngmenaaGreatDoor
open Go.RowKit
set_option linter.unusedVariables false
set_option maxRecDepth 100000

structure Lo (B : Nat) (w : World) (lb fb : Nat) (fv vo ve : Value) (r : Int) (Fs : List (List Opn)) (n R : Nat) (l : List (Opn × Value)) : Prop where
  lg : Lg B w lb fb fv vo ve (lby r Fs) n R r l (endsF Fs)
  fl : fsts l = Fs.flatten
  good : Good Fs
  r0 : 0 ≤ r
  r1 : r ≤ 15
  ns : n ≤ (lby r Fs).length
/-- A log was used, and is now so. -/
def Cn (B : Nat) (l l' : List (Opn × Value)) : Prop := ∀ p ∈ l', p ∈ l ∨ ∀ k, p.2.ownBlock = some k → B ≤ k
def LoX (B lb fb : Nat) (fv vo ve : Value) (r : Int) (Fs : List (List Opn)) (n R : Nat) (l : List (Opn × Value)) (w w' : World) : Prop := ∃ fv' vo' ve' l', Lo B w' lb fb fv' vo' ve' r Fs n R l' ∧ Lx (Ft lb fb fv vo ve) (Ft lb fb fv' vo' ve') w w' ∧ Cn w.heap.size l l'

theorem Lay.low {B : Nat} {w w' : World} (h : Lay w) (hb : Below B w w') (hB : 2 ≤ B) : Lay w' :=
  ⟨(hb.cell (by show 0 < B; omega)).trans h.r0, (hb.cell (by show 0 < B; omega)).trans h.r1, (hb.cell (by show 1 < B; omega)).trans h.t0, (hb.cell (by show 1 < B; omega)).trans h.t1⟩
theorem Lay.two {w : World} (h : Lay w) : 2 ≤ w.heap.size := by
  have h1 : 0 < w.heap.size := World.block_lt_of_cell? _ _ h.r0
  have h2 : 1 < w.heap.size := World.block_lt_of_cell? _ _ h.t0
  omega

section
variable {B : Nat} {w w' : World} {lb fb : Nat} {fv vo ve : Value} {n R : Nat} {r : Int} {l : List (Opn × Value)} {Fs : List (List Opn)}
theorem Lo.below (h : Lo B w lb fb fv vo ve r Fs n R l) (hb : Below w.heap.size w w') : Lo B w' lb fb fv vo ve r Fs n R l := ⟨h.lg.below hb, h.fl, h.good, h.r0, h.r1, h.ns⟩
theorem Lo.len (h : Lo B w lb fb fv vo ve r Fs n R l) : l.length = Fs.flatten.length := by rw [← h.fl]; simp [fsts]
theorem Lo.room (h : Lo B w lb fb fv vo ve r Fs n R l) : 10 + szF Fs ≤ R ∧ R ≤ 1048576 := by
  have h1 := h.lg.fi.nums
  rw [lby_len h.r0 h.r1] at h1
  exact ⟨h1.2.1, h1.2.2⟩
theorem Lo.bounds (h : Lo B w lb fb fv vo ve r Fs n R l) : l.length ≤ 1048576 ∧ (endsF Fs).length ≤ 1048576 := by
  have h1 := h.room
  have h2 := szF_pos Fs
  rw [h.len, endsF_len]
  omega
theorem Lo.all (h : Lo B w lb fb fv vo ve r Fs n R l) : opsAt (endsF Fs) (inF (endsF Fs) ((lby r Fs).length : Nat)) = l.length := by
  rw [lby_len h.r0 h.r1, inF_all (fun p hp => endsF_mem hp), opsAt_all, h.len]
theorem Lo.right (h : Lo B w lb fb fv vo ve r Fs n R l) : ∀ p ∈ l, rightO p.1 = true := by
  intro p hp
  have h1 : p.1 ∈ Fs.flatten := by rw [← h.fl]; exact List.mem_map.2 ⟨p, hp, rfl⟩
  obtain ⟨f, hf, ho⟩ := List.mem_flatten.1 h1
  exact (h.good f hf).2.1 _ ho
theorem Lo.fine (h : Lo B w lb fb fv vo ve r Fs n R l) : ∀ p ∈ l, p.1.fine ∧ p.1.cuts.length ≤ 100000 := fun p hp => fine_right (h.right p hp)

/-- Count, Synced, Ops. -/
theorem lo_count (h : Lo B w lb fb fv vo ve r Fs n R l) : Calls Tryz.prog 32 #[.pointer (some ⟨lb, 0, none⟩)] w fun e w' => e = .returned (.int .i64 (Fs.flatten.length : Nat)) ∧ Below w.heap.size w w' :=
  (count_any h.lg (endsF_sorted Fs) (by have := h.bounds; omega)).mono fun e w' ⟨h1, h2⟩ => ⟨by rw [h1, h.all, h.len], h2⟩
/-- How many ops are synced. -/
def syF (Fs : List (List Opn)) (n : Nat) : Nat := opsAt (endsF Fs) (inF (endsF Fs) (n : Nat))
theorem lo_synced (h : Lo B w lb fb fv vo ve r Fs n R l) : Calls Tryz.prog 34 #[.pointer (some ⟨lb, 0, none⟩)] w fun e w' => e = .returned (.int .i64 (syF Fs n : Nat)) ∧ Below w.heap.size w w' :=
  lsynced_any h.lg (endsF_sorted Fs) (by have := h.bounds; omega)
theorem lo_ops (h : Lo B w lb fb fv vo ve r Fs n R l) : Calls Tryz.prog 36 #[.pointer (some ⟨lb, 0, none⟩)] w fun e w' => ∃ v', e = .returned v' ∧ ∃ l', Os w' v' l' ∧ fsts l' = Fs.flatten ∧ Nn w.heap.size v' l' ∧ Below w.heap.size w w' :=
  (ops_any h.lg (endsF_sorted Fs) h.all h.fine (by have := h.bounds; omega) (by have := h.bounds; omega)).mono fun e w' ⟨v, h1, l', h2, h3, h4, h5⟩ => ⟨v, h1, l', h2, h3.trans h.fl, h4, h5⟩
theorem lo_sync (h : Lo B w lb fb fv vo ve r Fs n R l) : Calls Tryz.prog 18 #[.pointer (some ⟨lb, 0, none⟩)] w fun e w' => e = .returned (.tuple #[]) ∧ LoX B lb fb fv vo ve r Fs (lby r Fs).length R l w w' :=
  (lsync_any h.lg).mono fun e w' ⟨h1, h2, h3⟩ => ⟨h1, fv, vo, ve, l, ⟨h2, h.fl, h.good, h.r0, h.r1, Nat.le_refl _⟩, h3, fun p hp => .inl hp⟩

/-- A list that lies outside S. -/
structure Oq (S : Nat → Prop) (w : World) (u : Value) (q : List (Opn × Value)) : Prop where
  os : Os w u q
  far : q = [] ∨ ∀ k, u.ownBlock = some k → ¬ S k
  cu : Cq S w q
theorem Os.none_ {w w' : World} {u : Value} (h : Os w u []) : Os w' u [] := by
  obtain ⟨⟨h0, a, c, h1, h2, h3, h4, h5⟩, _⟩ := h
  exact ⟨⟨h0, a, c, h1, h2, h3, h4, fun j u hu => by simp at hu⟩, fun p hp => by cases hp⟩
theorem Oq.step {S S' : Nat → Prop} {u : Value} {q : List (Opn × Value)} (h : Oq S w u q) (x : Lx S S' w w') : Oq S' w' u q := by
  have hc := h.cu.step x
  rcases h.far with hf | hf
  · subst hf
    exact ⟨h.os.none_, .inl rfl, hc⟩
  · by_cases h0 : q = []
    · subst h0
      exact ⟨h.os.none_, .inl rfl, hc⟩
    · refine ⟨⟨Sl.kept h.os.1 (fun k hk hlt => x.fr.block k hlt (hf k hk)), fun p hp => (hc p hp).1⟩, .inr (fun k hk e => ?_), hc⟩
      obtain ⟨b, off, c, rfl, _, _, hb, _⟩ := h.os.inv (List.length_pos_iff.2 h0)
      simp [Value.ownBlock] at hk
      subst hk
      rcases x.new _ e with e | e
      · exact hf _ rfl e
      · omega
theorem Oq.below {S : Nat → Prop} {u : Value} {q : List (Opn × Value)} (h : Oq S w u q) (hb : Below w.heap.size w w') : Oq S w' u q := h.step (Lx.of_below hb)

def apE (R : Nat) (Fs : List (List Opn)) (q : List Opn) : Int := if frE q ≠ 0 then frE q else if 10 + szF Fs + (8 + (encA q).length) ≤ R then 0 else 14
def apF (R : Nat) (Fs : List (List Opn)) (q : List Opn) : List (List Opn) := if apE R Fs q = 0 then Fs ++ [q] else Fs

set_option maxHeartbeats 4000000 in
theorem lappend_any {u : Value} {q : List (Opn × Value)} (h : Lo B w lb fb fv vo ve r Fs n R l) (hL : Lay w) (hB : B ≤ w.heap.size) (hq : Oq (Ft lb fb fv vo ve) w u q) (hf : ∀ p ∈ q, p.1.fine ∧ p.1.cuts.length ≤ 100000) (hn : q.length ≤ 1000000) :
    Calls Tryz.prog 14 #[.pointer (some ⟨lb, 0, none⟩), u] w fun e w' => e = .returned (.int .i64 (apE R Fs (fsts q))) ∧ LoX B lb fb fv vo ve r (apF R Fs (fsts q)) n R l w w' := by
  have HF := hid (frame_any u q w hL hq.os (fun p hp => (hf p hp).1) hn)
  have HQ := hid hq
  have HL := hid h
  have HFF := hid hf
  clear h hq hf hL
  obtain ⟨G, hG⟩ : ∃ G, fsts q = G := ⟨_, rfl⟩
  have HG := hid hG
  rw [hG] at HF ⊢
  clear hG
  by_cases hz : frE G = 0
  · have hfb : frB G = C.frame (encA G) := by unfold frB; rw [hz]; rfl
    rw [hz, hfb] at HF
    have hgood := Good.one hz
    have HGD := hid hgood
    have hfl : (C.frame (encA G)).length = 8 + (encA G).length := C.frame_length _
    have hxl := lby_len HL.out.r0 HL.out.r1 Fs
    obtain ⟨XS, hXS⟩ : ∃ XS, lby r Fs = XS := ⟨_, rfl⟩
    obtain ⟨YS, hYS⟩ : ∃ YS, C.frame (encA G) = YS := ⟨_, rfl⟩
    have HLG : Hid (Lg B w lb fb fv vo ve XS n R r l (endsF Fs)) := hid (hXS ▸ HL.out.lg)
    rw [hYS] at HF hfl
    rw [hXS] at hxl
    obtain ⟨N, hN⟩ : ∃ N, XS.length = N := ⟨_, rfl⟩
    obtain ⟨M', hM⟩ : ∃ M', YS.length = M' := ⟨_, rfl⟩
    by_cases hr : N + M' ≤ R
    · have he : apE R Fs G = 0 := by unfold apE; rw [if_neg (by simp [hz]), if_pos (by omega)]
      have hF : apF R Fs G = Fs ++ [G] := by unfold apF; rw [if_pos he]
      have happ : appS R YS XS n = (0, XS ++ YS, n) := by unfold appS; rw [if_pos (by omega)]
      rw [he, hF]
      have HAPP := hid happ
      have HXS := hid hXS
      have HYS := hid hYS
      have HN := hid hN
      have HM := hid hM
      have HXL := hid hxl
      have HFL := hid hfl
      clear he hF happ hXS hYS hN hM hxl hfl hfb hz hgood
      have c0 := HLG.out.c0
      go_enter Tryz.func14, Tryz.ntmps14
      go_wp2_with fail
      refine HF.out.mono ?_
      rintro e w1 ⟨v1, rfl, hv1, b1⟩
      obtain ⟨a1, c1, e1⟩ := hv1.form
      rw [HM.out] at e1
      subst e1
      have V1 := hid hv1
      have B1 := hid b1
      have HL1 := hid (HLG.out.below b1)
      have HQ1 := hid (HQ.out.below b1)
      have HB1 := hid (Nat.le_trans hB b1.size)
      clear hv1 b1 c0
      have c0 := HL1.out.c0
      go_wp2_with fail
      refine (fsize_any HL1.out.fi).mono ?_
      rintro e w2 ⟨rfl, rfl⟩
      rw [HN.out]
      go_wp2_with fail
      refine (fappend_any HB1.out HL1.out.fi _ YS V1.out).mono ?_
      rintro e w3 ⟨he, ho⟩
      have he' := he.out HAPP.out
      obtain ⟨fv', hfi, hfx⟩ := ho.out HAPP.out
      subst he'
      obtain ⟨hl3, hx3⟩ := HL1.out.file hfi hfx
      have HL3 := hid hl3
      have X3 : Hid (Lx (Ft lb fb fv vo ve) (Ft lb fb fv' vo ve) w w3) := hid ((Lx.of_below B1.out).trans hx3)
      have HQ3 := hid (HQ1.out.step hx3)
      have HB3 := hid (Nat.le_trans HB1.out hx3.size)
      clear he ho hfi hfx hl3 hx3 c0
      go_wp2_with fail
      refine (clones_any u q w3 HQ3.out.os HFF.out (by omega)).mono ?_
      rintro e w4 ⟨v4, rfl, q', ho4, hfs4, hnw4, b4⟩
      have HL4 := hid (HL3.out.below b4)
      have HB4 := hid (Nat.le_trans HB3.out b4.size)
      have HO4 := hid ho4
      have hql : q'.length = q.length := by have := congrArg List.length hfs4; simpa [fsts] using this
      have HFS4 := hid hfs4
      have HNN4 := hid hnw4
      have HCQ : Hid (Cq (Ft lb fb fv' vo ve) w4 q') := hid (fun p hp => ⟨ho4.2 p hp, .inr (fun k hk e => by
        have h1 := hnw4.2 p hp k hk
        have h2 := (HL3.out.inside e).2
        omega)⟩)
      have X4 : Hid (Lx (Ft lb fb fv vo ve) (Ft lb fb fv' vo ve) w w4) := hid (X3.out.trans (Lx.of_below b4))
      have hbd := HL.out.bounds
      have hz1 : l.length + q'.length ≤ 10000000 := by omega
      have hz2 : (endsF Fs).length ≤ 10000000 := by omega
      have HIN : Hid (∀ p ∈ endsF Fs, p.1 ≤ N) := hid (fun p hp => by have h1 := endsF_mem hp; have h2 := HXL.out; have h3 := HN.out; omega)
      have HOP : Hid (opsAt (endsF Fs) (endsF Fs).length = l.length) := hid (by rw [opsAt_all, HL.out.len])
      clear ho4 hfs4 hnw4 b4 hbd
      go_wp2_with fail
      have hNR : R ≤ 1048576 := HL.out.room.2
      rw [show wrap64 ((N : Int) + (M' : Int)) = ((N + M' : Nat) : Int) by unfold wrap64; omega]
      refine (add_any HL4.out HB4.out HO4.out HCQ.out N (N + M') (endsF_sorted Fs) HIN.out HOP.out hz1 hz2).mono ?_
      rintro e w5 ⟨rfl, vo5, ve5, hl5, hx5⟩
      have HL5 := hid hl5
      have X5 := hid (X4.out.trans hx5)
      clear hl5 hx5
      go_wp2_with fail
      go_ret
      refine ⟨rfl, fv', vo5, ve5, l ++ q', ⟨?_, ?_, HL.out.good.append HGD.out, HL.out.r0, HL.out.r1, ?_⟩, X5.out, fun p hp => (List.mem_append.1 hp).imp id (fun h k hk => Nat.le_trans (Lx.size X3.out) (HNN4.out.2 p h k hk))⟩
      · have h5 := HL5.out
        have hfl : fsts (l ++ q') = (Fs ++ [G]).flatten := by
          have e1 := HL.out.fl
          have e2 := HFS4.out
          rw [HG.out] at e2
          unfold fsts at e1 e2 ⊢
          rw [List.map_append, e1, e2, List.flatten_append]
          simp
        have hlen : (l ++ q').length = (Fs ++ [G]).flatten.length := by rw [← hfl]; simp [fsts]
        have hsz : N + M' = 10 + szF (Fs ++ [G]) := by
          rw [szF_append, szF_one]
          have h2 := HXL.out
          have h3 := HN.out
          have h4 := HM.out
          have h6 := HFL.out
          omega
        rw [lby_snoc, HXS.out, HYS.out, endsF_snoc, ← hlen, ← hsz]
        exact h5
      · have e1 := HL.out.fl
        have e2 := HFS4.out
        rw [HG.out] at e2
        unfold fsts at e1 e2 ⊢
        rw [List.map_append, e1, e2, List.flatten_append]
        simp
      · have h1 := HL.out.ns
        rw [lby_snoc, List.length_append]
        omega
    · have he : apE R Fs G = 14 := by unfold apE; rw [if_neg (by simp [hz]), if_neg (by omega)]
      have hF : apF R Fs G = Fs := by unfold apF; rw [if_neg (by rw [he]; decide)]
      have happ : appS R YS XS n = (14, XS, n) := by unfold appS; rw [if_neg (by omega)]
      rw [he, hF]
      have HAPP := hid happ
      have HXS := hid hXS
      have HM := hid hM
      clear he hF happ hYS hN hM hxl hfl hfb hz hgood
      have c0 := HLG.out.c0
      go_enter Tryz.func14, Tryz.ntmps14
      go_wp2_with fail
      refine HF.out.mono ?_
      rintro e w1 ⟨v1, rfl, hv1, b1⟩
      obtain ⟨a1, c1, e1⟩ := hv1.form
      rw [HM.out] at e1
      subst e1
      have V1 := hid hv1
      have B1 := hid b1
      have HL1 := hid (HLG.out.below b1)
      have HB1 := hid (Nat.le_trans hB b1.size)
      clear hv1 b1 c0
      have c0 := HL1.out.c0
      go_wp2_with fail
      refine (fsize_any HL1.out.fi).mono ?_
      rintro e w2 ⟨rfl, rfl⟩
      go_wp2_with fail
      refine (fappend_any HB1.out HL1.out.fi _ YS V1.out).mono ?_
      rintro e w3 ⟨he, ho⟩
      have he' := he.out HAPP.out
      obtain ⟨fv', hfi, hfx⟩ := ho.out HAPP.out
      subst he'
      obtain ⟨hl3, hx3⟩ := HL1.out.file hfi hfx
      have HL3 := hid hl3
      have X3 : Hid (Lx (Ft lb fb fv vo ve) (Ft lb fb fv' vo ve) w w3) := hid ((Lx.of_below B1.out).trans hx3)
      clear he ho hfi hfx hl3 hx3 c0
      go_wp2_with fail
      go_ret
      refine ⟨rfl, fv', vo, ve, l, ⟨?_, HL.out.fl, HL.out.good, HL.out.r0, HL.out.r1, HL.out.ns⟩, X3.out, fun p hp => .inl hp⟩
      rw [HXS.out]
      exact HL3.out
  · have he : apE R Fs G = frE G := by unfold apE; rw [if_pos hz]
    have hF : apF R Fs G = Fs := by unfold apF; rw [if_neg (by rw [he]; exact hz)]
    rw [he, hF]
    clear he hF
    have hz' : (frE G == 0) = false := by simpa using hz
    obtain ⟨E, hE⟩ : ∃ E, frE G = E := ⟨_, rfl⟩
    rw [hE] at HF hz' ⊢
    clear hE hz
    go_enter Tryz.func14, Tryz.ntmps14
    go_wp2_with fail
    refine HF.out.mono ?_
    rintro e w1 ⟨v1, rfl, hv1, b1⟩
    have B1 := hid b1
    have HL1 := hid (HL.out.below b1)
    clear hv1 b1
    go_wp2_with fail
    go_ret
    exact ⟨rfl, fv, vo, ve, l, HL1.out, Lx.of_below B1.out, fun p hp => .inl hp⟩
end
end Go.Proofs.YteckjkblngmenaaGreatDoor
