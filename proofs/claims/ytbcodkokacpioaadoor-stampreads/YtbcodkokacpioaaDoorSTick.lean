/-
  What a clock's Tick and See do is proved here, for every clock whose lock is free, and every name and time.
-/
import Derived.Test.YtbcodkokacpioaaDoorSRes
import Derived.Deep.QuietTactic
import Derived.BigQuiet
import Derived.Deep.RegionWith
namespace Go.Proofs.YtbcodkokacpioaaDoor
open Go.RowKit Go.MuLone
set_option linter.unusedVariables false

/-- A name, a time and an error number. -/
abbrev tk (r n t e : Int) : Value := .tuple #[idv r n, .int .i64 t, .int .i64 e]

set_option maxHeartbeats 1000000 in
theorem tick_lim (b : Nat) (r t n : Int) (w : World) (h : Ck w b r 0 (wd t n)) (hin : In t n) (hlim : t = 1099511627776 ∨ n = 1048576) :
    Calls Tryd.prog 27 #[.pointer (some ⟨b, 0, none⟩)] w fun e w' =>
      e = .returned (tk 0 0 0 19) ∧ Ck w' b r 0 (wd t n) ∧ w.grownBy w' (some b) := by
  have hb := h.lt
  have h1 := h.below (ba w (ido 23 0 0))
  have hp := Pr.new 23 w 0 0
  have H1 := hid (lock_any b r _ _ h1)
  have G0 := hid (World.grownBy.of_below (row := some b) (ba w (ido 23 0 0)))
  obtain ⟨s, hs⟩ : ∃ s, w.heap.size = s := ⟨_, rfl⟩
  rw [hs] at hp hb
  have HP := hid hp
  have hsb : ¬ b = s := by omega
  have hsb' : ¬ s = b := by omega
  clear h1 hp
  have ht : ((t == 1099511627776) = true) ∨ ((t == 1099511627776) = false ∧ (n == 1048576) = true) := by
    by_cases ht : t = 1099511627776
    · exact .inl (by simpa using ht)
    · exact .inr ⟨by simpa using ht, by simp; omega⟩
  have HI := hid hin
  clear hlim hin
  go_enter_defers Tryd.func27, Tryd.ntmps27
  go_wp2_with fail
  refine H1.out.mono ?_
  rintro e w1 ⟨rfl, hc1, g1⟩
  have hp1 := HP.out.other g1 hsb'
  have k0 := hp1.c0
  have k1 := hp1.c1
  have f0 := hp1.f 0
  have f1 := hp1.f 1
  go_wp2_with fail
  refine (both_any b r 1 t n w1 hc1 HI.out).mono ?_
  rintro e w2 ⟨rfl, rfl⟩
  have hq4 := hid ((hp1.set0 0).set1 0)
  have hc3 := hid (hc1.other (grown_set w1 s 0 (.int .i64 0)) hsb)
  have hc4 := hid (hc3.out.other (grown_set _ s 1 (.int .i64 0)) hsb)
  have G1 := hid g1
  clear hc1 g1 hp1
  rcases ht with ht | ⟨ht, hn⟩
  all_goals
    go_wp2_with fail
    refine leaves_cons (f := 41) (args := #[.pointer (some ⟨b, 1, none⟩)]) (by simp) (by simp [go_sem]) ?_
    refine (unlock_any b r _ .returning _ hc4.out).mono ?_
    rintro e u' w4 ⟨rfl, rfl, hc5, g5⟩
    have q5 := hq4.out.other g5 hsb'
    refine ⟨_, results_id3 rfl _ _ rfl q5, rfl, hc5, Gb.done ?_⟩
    have z1 := G1.out.size
    have z0 := G0.out.size
    exact (((((Gb.refl _ b w).grown G0.out (Nat.le_refl _)).grown G1.out (by omega)).set (Nat.le_of_eq hs) 0 _).set (Nat.le_of_eq hs) 1 _).grown g5 (by simp [World.setCell]; omega)

set_option maxHeartbeats 1000000 in
theorem tick_goes (b : Nat) (r t n : Int) (w : World) (h : Ck w b r 0 (wd t n)) (hin : In t n) (ht : ¬ t = 1099511627776) (hn : ¬ n = 1048576) :
    Calls Tryd.prog 27 #[.pointer (some ⟨b, 0, none⟩)] w fun e w' =>
      e = .returned (tk r (n + 1) (t + 1) 0) ∧ Ck w' b r 0 (wd (t + 1) (n + 1)) ∧ w.grownBy w' (some b) := by
  have hb := h.lt
  have h1 := h.below (ba w (ido 23 0 0))
  have hp := Pr.new 23 w 0 0
  have H1 := hid (lock_any b r _ _ h1)
  have G0 := hid (World.grownBy.of_below (row := some b) (ba w (ido 23 0 0)))
  obtain ⟨s, hs⟩ : ∃ s, w.heap.size = s := ⟨_, rfl⟩
  rw [hs] at hp hb
  have HP := hid hp
  have hsb : ¬ b = s := by omega
  have hsb' : ¬ s = b := by omega
  clear h1 hp
  have ht' : (t == 1099511627776) = false := by simpa using ht
  have hn' : (n == 1048576) = false := by simpa using hn
  have wt : wrap64 (t + 1) = t + 1 := by unfold wrap64; omega
  have wn : wrap64 (n + 1) = n + 1 := by unfold wrap64; omega
  have HI := hid hin
  have HI' : Hid (In (t + 1) (n + 1)) := by
    unfold Hid; omega
  clear hin ht hn
  go_enter_defers Tryd.func27, Tryd.ntmps27
  go_wp2_with fail
  refine H1.out.mono ?_
  rintro e w1 ⟨rfl, hc1, g1⟩
  have hp1 := HP.out.other g1 hsb'
  go_wp2_with fail
  refine (both_any b r 1 t n w1 hc1 HI.out).mono ?_
  rintro e w2 ⟨rfl, rfl⟩
  go_wp2_with fail
  refine (set_any b r 1 _ (t + 1) (n + 1) w1 hc1 HI'.out).mono ?_
  rintro e w2 ⟨rfl, hc2, g2⟩
  have hp2 := hp1.other g2 hsb'
  have k0 := hp2.c0
  have k1 := hp2.c1
  have f0 := hp2.f 0
  have f1 := hp2.f 1
  have r0 := hc2.c0
  have HC2 := hid hc2
  have HP2 := hid hp2
  have G1 := hid g1
  have G2 := hid g2
  clear hc1 g1 hp1 g2 hc2 hp2
  have hq := hid ((((HP2.out.set0 0).set1 0).set0 r).set1 (n + 1))
  have hc := hid ((((HC2.out.other (grown_set _ s 0 (.int .i64 0)) hsb).other (grown_set _ s 1 (.int .i64 0)) hsb).other (grown_set _ s 0 (.int .i64 r)) hsb).other (grown_set _ s 1 (.int .i64 (n + 1))) hsb)
  have z1 := hid G1.out.size
  have z0 := hid G0.out.size
  have z2 := hid G2.out.size
  have hG := hid (((((((Gb.refl _ b w).grown G0.out (Nat.le_refl _)).grown G1.out z0.out).grown G2.out (Nat.le_trans z0.out z1.out)).set (Nat.le_of_eq hs) 0 (.int .i64 0)).set (Nat.le_of_eq hs) 1 (.int .i64 0)).set (Nat.le_of_eq hs) 0 (.int .i64 r) |>.set (Nat.le_of_eq hs) 1 (.int .i64 (n + 1)))
  go_wp2_with fail
  go_region
  go_wp2_with fail
  refine leaves_cons (f := 41) (args := #[.pointer (some ⟨b, 1, none⟩)]) (by simp) (by simp [go_sem]) ?_
  refine (unlock_any b r _ .returning _ hc.out.drew).mono ?_
  rintro e u' w4 ⟨rfl, rfl, hc5, g5⟩
  have q5 := hq.out.drew.other g5 hsb'
  refine ⟨_, results_id3 rfl _ _ rfl q5, rfl, hc5, Gb.done ?_⟩
  have := z0.out
  have := z1.out
  have := z2.out
  exact hG.out.drew.grown g5 (by rw [size_drew, size_set, size_set, size_set, size_set]; omega)

/-- What See makes of a clock's time and number. -/
def seeT (t u : Int) : Int := if u ≤ 1099511627776 then max t u else t
def seeN (r n i j : Int) : Int := if i = r ∧ ro i j = true then max n j else n
theorem see_in {r t n i j u : Int} (h : In t n) : In (seeT t u) (seeN r n i j) := by
  unfold In at *
  have h1 : 0 ≤ seeT t u ∧ seeT t u ≤ 1099511627776 := by unfold seeT; split <;> omega
  have h2 : 0 ≤ seeN r n i j ∧ seeN r n i j ≤ 1048576 := by
    unfold seeN
    split
    · rename_i h3
      have := h3.2
      simp [ro] at this
      omega
    · omega
  omega

theorem tick_any (b : Nat) (r t n : Int) (w : World) (h : Ck w b r 0 (wd t n)) (hin : In t n) :
    Calls Tryd.prog 27 #[.pointer (some ⟨b, 0, none⟩)] w fun e w' =>
      e = .returned (if t = 1099511627776 ∨ n = 1048576 then tk 0 0 0 19 else tk r (n + 1) (t + 1) 0) ∧
      Ck w' b r 0 (if t = 1099511627776 ∨ n = 1048576 then wd t n else wd (t + 1) (n + 1)) ∧ w.grownBy w' (some b) := by
  by_cases hl : t = 1099511627776 ∨ n = 1048576
  · rw [if_pos hl, if_pos hl]
    exact tick_lim b r t n w h hin hl
  · rw [if_neg hl, if_neg hl]
    exact tick_goes b r t n w h hin (fun e => hl (.inl e)) (fun e => hl (.inr e))

end Go.Proofs.YtbcodkokacpioaaDoor
