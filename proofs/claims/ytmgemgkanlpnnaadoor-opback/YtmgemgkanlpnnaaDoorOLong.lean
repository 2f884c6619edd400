/-
  Rows of ops in memory ('Os'); what Long answers is proved here, for all rows of ops.
-/
import Derived.Test.YtmgemgkanlpnnaaDoorOSl
import Derived.BigQuiet
namespace Go.Proofs.YtmgemgkanlpnnaaDoor
open Go.RowKit
set_option linter.unusedVariables false
set_option maxRecDepth 100000

/-- Ops, each with its cuts' slice. -/
abbrev opc (p : Opn × Value) : List Value := (opl p.1 p.2).toList
def Os (w : World) (v : Value) (l : List (Opn × Value)) : Prop := Sl 20 w v l.length (l.flatMap opc) ∧ ∀ p ∈ l, Cs w p.2 p.1.cuts
theorem Os.inv {w : World} {v : Value} {l : List (Opn × Value)} (h : Os w v l) (hn : 0 < l.length) :
    ∃ b off c, v = .slice (some ⟨b, off, none⟩) l.length c ∧ l.length ≤ c ∧ c ≤ maxLen ∧ b < w.heap.size ∧ ∀ i (hi : i < l.length) j, j < 20 → w.cell? ⟨b, off + i * 20 + j, none⟩ = (opl (l[i]).1 (l[i]).2)[j]? := by
  obtain ⟨b, off, c, h1, h2, h3, h4, h5⟩ := Sl.inv h.1 hn (by decide)
  refine ⟨b, off, c, h1, h2, h3, h4, fun i hi j hj => ?_⟩
  have k := flat_at opc 20 (fun _ => rfl) l i j hi hj
  have hs : j < (opl (l[i]).1 (l[i]).2).size := hj
  have e : (opl (l[i]).1 (l[i]).2)[j]? = some ((opl (l[i]).1 (l[i]).2)[j]) := Array.getElem?_eq_getElem hs
  rw [e, Nat.add_assoc]
  refine h5 _ _ ?_
  rw [k, ← e]
  simp [opc]

/-- An op that is looked at. -/
def small (o : Opn) : Bool := decide (o.text.size ≤ 200) && decide (o.key.size ≤ 200) && decide (o.cuts.length ≤ 40)

set_option maxHeartbeats 2000000 in
theorem long_any (v : Value) (l : List (Opn × Value)) (most : Nat) (w : World) (h : Os w v l) (hm : l.length ≤ most) (hm' : most ≤ 1000) :
    Calls Tryd.prog 15 #[v, .int .i64 most] w fun e w' => e = .returned (.bool (!l.all (fun p => small p.1))) ∧ w = w' := by
  by_cases hz : l.length = 0
  · obtain rfl := List.eq_nil_of_length_eq_zero hz
    obtain ⟨a, c, rfl, _, _⟩ := Sl.form h.1
    clear h hz
    go_enter Tryd.func15, Tryd.ntmps15
    go_wp2
    refine wp_loop_rounds 1 ?_
    rw [rounds_succ]
    go_wp2
    go_ret
    exact ⟨rfl, rfl⟩
  · obtain ⟨b, off, c, rfl, hlc, hcm, hbl, hc⟩ := h.inv (by omega)
    have hcs := h.2
    obtain ⟨n, hn⟩ : ∃ n, l.length = n := ⟨_, rfl⟩
    have HN := hid hn
    rw [hn] at hz hlc hm ⊢
    unfold maxLen at hcm
    have HC := hid hc
    have HCS := hid hcs
    obtain ⟨r, hr⟩ : ∃ r, l.all (fun p => small p.1) = r := ⟨_, rfl⟩
    rw [hr]
    have HR := hid hr
    have hd1 : decide (most < n) = false := by simp; omega
    have hd2 : decide ((most : Int) < (n : Int)) = false := by simp; omega
    clear hn hc h hbl hcs hr
    go_enter Tryd.func15, Tryd.ntmps15
    go_wp2
    go_loopw [5] (fun i wr => ∃ k : Nat, k ≤ n ∧ i = .int .i64 k ∧ wr = w ∧ ∀ j (hj : j < l.length), j < k → small (l[j]).1 = true) (fun i _ => n - (intOf i).toNat)
    case atStart => exact ⟨0, Nat.zero_le _, rfl, rfl, fun j _ h => absurd h (Nat.not_lt_zero _)⟩
    case round =>
      obtain ⟨k, hk, rfl, rfl, ht⟩ := hrel
      have HT := hid ht
      clear ht
      by_cases hlt : k < n
      · have hkl : k < l.length := by rw [HN.out]; exact hlt
        obtain ⟨x, hx⟩ : ∃ x, l[k] = x := ⟨_, rfl⟩
        have g1 := HC.out k hkl 17 (by decide)
        have g2 := HC.out k hkl 8 (by decide)
        have g3 := HC.out k hkl 18 (by decide)
        rw [hx] at g1 g2 g3
        have hxc := HCS.out _ (List.getElem_mem hkl)
        rw [hx] at hxc
        obtain ⟨xa, xc, hxv, _, _⟩ := hxc.form
        simp at g1 g2 g3
        rw [hxv] at g3
        have HX := hid hx
        clear hx hxc hxv
        have b1' : (k : Int) < (n : Int) := by omega
        have hs : small x.1 = (decide (x.1.text.size ≤ 200) && decide (x.1.key.size ≤ 200) && decide (x.1.cuts.length ≤ 40)) := rfl
        cases t1 : decide (x.1.text.size ≤ 200)
        all_goals cases t2 : decide (x.1.key.size ≤ 200)
        all_goals cases t3 : decide (x.1.cuts.length ≤ 40)
        all_goals
          rw [t1, t2, t3] at hs
          have HS := hid hs
          simp at t1 t2 t3
          clear hs
          go_wp2
          try
            go_ret
            refine ⟨retb ?_, rfl⟩
            rw [← HR.out]
            have hf : l.all (fun p => small p.1) = false := by
              rw [List.all_eq_false]
              exact ⟨x, by have := List.getElem_mem hkl; rw [HX.out] at this; exact this, by rw [HS.out]; decide⟩
            rw [hf]
            decide
        go_roundw
        case rel =>
          refine ⟨k + 1, by omega, by go_num, by first | rfl | trivial, fun j hj hjk => ?_⟩
          by_cases e : j = k
          · subst e; rw [HX.out]; exact HS.out
          · exact HT.out j hj (by omega)
        case measure => simp [intOf]; omega
      · have e1 : k = n := by omega
        clear HC
        go_wp2
        go_ret
        refine ⟨retb ?_, rfl⟩
        rw [← HR.out]
        have hf : l.all (fun p => small p.1) = true := by
          rw [List.all_eq_true]
          intro p hp
          obtain ⟨j, hj, e⟩ := List.getElem_of_mem hp
          have := HT.out j hj (by have := HN.out; omega)
          rw [e] at this
          exact this
        rw [hf]
        decide

end Go.Proofs.YtmgemgkanlpnnaaDoor
