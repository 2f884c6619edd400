/-
  A clock in memory: 'Ck w b r l x': block b is a clock of replica r, its lock l, its word x. What its lock's and its word's methods do to it is proved here.
-/
import Derived.Test.YtbcodkokacpioaaDoorSRight
import Derived.Test.YtbcodkokacpioaaDoorSLocks
import Derived.Laws.BitsLemmas
import Derived.Defers
import Derived.Laws.LoneSync
namespace Go.Proofs.YtbcodkokacpioaaDoor
open Go.RowKit Go.MuLone
set_option linter.unusedVariables false

def Ck (w : World) (b : Nat) (r l x : Int) : Prop := w.heap[b]? = some (.cells #[.int .i64 r, .int .i32 l, .int .u32 0, .int .i64 x] 72 (0, 0))

theorem Ck.lt {w : World} {b : Nat} {r l x : Int} (h : Ck w b r l x) : b < w.heap.size := (Array.getElem?_eq_some_iff.1 h).1
theorem Ck.below {w w' : World} {b : Nat} {r l x : Int} (h : Ck w b r l x) (hb : Below w.heap.size w w') : Ck w' b r l x := (hb.block b h.lt).trans h
theorem Ck.other {w w' : World} {b c : Nat} {r l x : Int} (h : Ck w b r l x) (hg : w.grownBy w' (some c)) (hne : b ≠ c) : Ck w' b r l x := (hg.block b h.lt (by simpa using hne)).trans h
theorem Ck.drewN {w : World} {b : Nat} {r l x : Int} (h : Ck w b r l x) (n : Nat) : Ck (w.drewN n) b r l x := h
theorem grown_set (w : World) (b i : Nat) (v : Value) : w.grownBy (w.setCell ⟨b, i, none⟩ v) (some b) :=
  ⟨rfl, rfl, rfl, by simp [World.setCell], fun k _ hk => heap_setCell_other w ⟨b, i, none⟩ k v (fun e => hk (by simp [e]))⟩
theorem Ck.set1 {w : World} {b : Nat} {r l x : Int} (h : Ck w b r l x) (l' : Int) : Ck (w.setCell ⟨b, 1, none⟩ (.int .i32 l')) b r l' x := by
  unfold Ck at h ⊢
  rw [heap_setCell_same w b 1 _ 72 _ h]; rfl
theorem Ck.set3 {w : World} {b : Nat} {r l x : Int} (h : Ck w b r l x) (x' : Int) : Ck (w.setCell ⟨b, 3, none⟩ (.int .i64 x')) b r l x' := by
  unfold Ck at h ⊢
  rw [heap_setCell_same w b 3 _ 72 _ h]; rfl
theorem Ck.c0 {w : World} {b : Nat} {r l x : Int} (h : Ck w b r l x) : w.cell? ⟨b, 0, none⟩ = some (.int .i64 r) := by rw [cell_of_row w b 0 _ _ _ h]; rfl
theorem Ck.c1 {w : World} {b : Nat} {r l x : Int} (h : Ck w b r l x) : w.cell? ⟨b, 1, none⟩ = some (.int .i32 l) := by rw [cell_of_row w b 1 _ _ _ h]; rfl
theorem Ck.c3 {w : World} {b : Nat} {r l x : Int} (h : Ck w b r l x) : w.cell? ⟨b, 3, none⟩ = some (.int .i64 x) := by rw [cell_of_row w b 3 _ _ _ h]; rfl
theorem Ck.f {w : World} {b : Nat} {r l x : Int} (h : Ck w b r l x) (i : Nat) : w.frozen? ⟨b, i, none⟩ = false := frozen_of_row w b i _ _ h

/-- Two numbers in a block. -/
def Pr (T : Nat) (w : World) (b : Nat) (r n : Int) : Prop := w.heap[b]? = some (.cells #[.int .i64 r, .int .i64 n] T (0, 0))
theorem Pr.lt {T : Nat} {w : World} {b : Nat} {r n : Int} (h : Pr T w b r n) : b < w.heap.size := (Array.getElem?_eq_some_iff.1 h).1
theorem Pr.new (T : Nat) (w : World) (r n : Int) : Pr T (w.alloc (ido T r n)) w.heap.size r n := heap_alloc_new w _
theorem Pr.below {T : Nat} {w w' : World} {b : Nat} {r n : Int} (h : Pr T w b r n) (hb : Below w.heap.size w w') : Pr T w' b r n := (hb.block b h.lt).trans h
theorem Pr.other {T : Nat} {w w' : World} {b c : Nat} {r n : Int} (h : Pr T w b r n) (hg : w.grownBy w' (some c)) (hne : b ≠ c) : Pr T w' b r n := (hg.block b h.lt (by simpa using hne)).trans h
theorem Pr.set0 {T : Nat} {w : World} {b : Nat} {r n : Int} (h : Pr T w b r n) (x : Int) : Pr T (w.setCell ⟨b, 0, none⟩ (.int .i64 x)) b x n := by
  unfold Pr at h ⊢
  rw [heap_setCell_same w b 0 _ T _ h]; rfl
theorem Pr.set1 {T : Nat} {w : World} {b : Nat} {r n : Int} (h : Pr T w b r n) (x : Int) : Pr T (w.setCell ⟨b, 1, none⟩ (.int .i64 x)) b r x := by
  unfold Pr at h ⊢
  rw [heap_setCell_same w b 1 _ T _ h]; rfl
theorem Pr.c0 {T : Nat} {w : World} {b : Nat} {r n : Int} (h : Pr T w b r n) : w.cell? ⟨b, 0, none⟩ = some (.int .i64 r) := by rw [cell_of_row w b 0 _ _ _ h]; rfl
theorem Pr.c1 {T : Nat} {w : World} {b : Nat} {r n : Int} (h : Pr T w b r n) : w.cell? ⟨b, 1, none⟩ = some (.int .i64 n) := by rw [cell_of_row w b 1 _ _ _ h]; rfl
theorem Pr.f {T : Nat} {w : World} {b : Nat} {r n : Int} (h : Pr T w b r n) (i : Nat) : w.frozen? ⟨b, i, none⟩ = false := frozen_of_row w b i _ _ h

/-- The lock. -/
theorem lock_any (b : Nat) (r x : Int) (w : World) (h : Ck w b r 0 x) :
    Calls Tryd.prog 40 #[.pointer (some ⟨b, 1, none⟩)] w fun e w' => e = .returned (.tuple #[]) ∧ Ck w' b r 1 x ∧ w.grownBy w' (some b) :=
  (lock_free muLib ⟨b, 1, none⟩ w h.c1 (h.f 1)).mono fun _ _ ⟨he, hw⟩ => ⟨he, hw ▸ h.set1 1, hw ▸ grown_set _ _ _ _⟩
theorem unlock_any (b : Nat) (r x : Int) (u : FrameMode) (w : World) (h : Ck w b r 1 x) :
    CallsD Tryd.prog 41 #[.pointer (some ⟨b, 1, none⟩)] u w fun e u' w' => u' = u ∧ e = .returned (.tuple #[]) ∧ Ck w' b r 0 x ∧ w.grownBy w' (some b) :=
  (unlock_deferred muLib ⟨b, 1, none⟩ u w h.c1 (h.f 1)).mono fun _ _ _ ⟨hu, he, hw⟩ => ⟨hu, he, hw ▸ h.set1 0, hw ▸ grown_set _ _ _ _⟩

theorem load64 {a : Addr} {x : Int} {w : World} (hc : w.cell? a = some (.int .i64 x)) : (callFunc 64 #[.pointer (some a)]).run Tryd.prog w = .ok (.value (.int .i64 x)) w :=
  run_call_load Tryd.func64 (by kernel_rfl) (by kernel_rfl) (by kernel_rfl) .i64 (by kernel_rfl) hc
theorem store64 {a : Addr} {y : Int} {u : Value} {w : World} (hc : w.cell? a = some u) (hz : w.frozen? a = false) : (callFunc 65 #[.pointer (some a), .int .i64 y]).run Tryd.prog w = .ok (.value (.tuple #[])) (w.setCell a (.int .i64 y)) :=
  run_call_store Tryd.func65 (by kernel_rfl) (by kernel_rfl) (by kernel_rfl) (by kernel_rfl) hc hz

/-- The word of a time and a number. -/
def wd (t n : Int) : Int := t * 2097152 + n
theorem wraps_i64' (n : Int) (h₀ : 0 ≤ n) (h₁ : n < 2 ^ 62) : IntKind.i64.wrap n = n := by rw [IntKind.wrap_i64]; omega

theorem or_word (a b : Nat) (ha : a ≤ 1099511627776) (hb : b < 2097152) : bits BinOp.or IntKind.i64 ((a : Int) * 2097152) (b : Int) = (a : Int) * 2097152 + b := by
  have h1 : (BitVec.ofInt IntKind.i64.bits ((a : Int) * 2097152)).toNat = 2 ^ 21 * a := by
    rw [show (a : Int) * 2097152 = ((2 ^ 21 * a : Nat) : Int) by omega, BitVec.ofInt_natCast, BitVec.toNat_ofNat]
    exact Nat.mod_eq_of_lt (by simp [IntKind.bits]; omega)
  have h2 : (BitVec.ofInt IntKind.i64.bits (b : Int)).toNat = b := by
    rw [BitVec.ofInt_natCast, BitVec.toNat_ofNat]
    exact Nat.mod_eq_of_lt (by simp [IntKind.bits]; omega)
  unfold bits
  simp only [BitVec.toNat_or, h1, h2]
  rw [← Nat.two_pow_add_eq_or_of_lt (by omega)]
  rw [IntKind.wrap_i64]
  omega

theorem word_set {t n : Int} (h : 0 ≤ t ∧ t ≤ 1099511627776 ∧ 0 ≤ n ∧ n ≤ 1048576) : bits BinOp.or IntKind.i64 (wrap64 (t * 2097152)) n = wd t n := by
  obtain ⟨h1, h2, h3, h4⟩ := h
  obtain ⟨a, rfl⟩ := Int.eq_ofNat_of_zero_le h1
  obtain ⟨c, rfl⟩ := Int.eq_ofNat_of_zero_le h3
  rw [show wrap64 ((a : Int) * 2097152) = (a : Int) * 2097152 by unfold wrap64; omega]
  exact or_word a c (by omega) (by omega)
theorem word_get {t n : Int} (h : 0 ≤ t ∧ t ≤ 1099511627776 ∧ 0 ≤ n ∧ n ≤ 1048576) : wd t n / 2097152 = t ∧ bits BinOp.and IntKind.i64 (wd t n) 2097151 = n := by
  unfold wd
  refine ⟨by omega, ?_⟩
  have := bits_mask .i64 62 (by decide) wraps_i64' 21 (by decide) (t * 2097152 + n) (by omega) (by omega)
  rw [show ((2 : Int) ^ 21 - 1) = 2097151 by decide] at this
  rw [this]
  omega

theorem ret_ii {a b c d : Int} (h1 : a = c) (h2 : b = d) : Ending.returned (.tuple #[.int .i64 a, .int .i64 b]) = .returned (.tuple #[.int .i64 c, .int .i64 d]) := by rw [h1, h2]

/-- What a clock holds. -/
abbrev In (t n : Int) : Prop := 0 ≤ t ∧ t ≤ 1099511627776 ∧ 0 ≤ n ∧ n ≤ 1048576

set_option maxHeartbeats 1000000 in
theorem both_any (b : Nat) (r l t n : Int) (w : World) (h : Ck w b r l (wd t n)) (hin : In t n) :
    Calls Tryd.prog 42 #[.pointer (some ⟨b, 0, none⟩)] w fun e w' => e = .returned (.tuple #[.int .i64 t, .int .i64 n]) ∧ w = w' := by
  have hc := h.c3
  have HW := hid (word_get hin)
  obtain ⟨x, hx⟩ : ∃ x, wd t n = x := ⟨_, rfl⟩
  rw [hx] at hc HW
  clear hx hin h
  have hld := load64 hc
  go_enter Tryd.func42, Tryd.ntmps42
  go_wp2
  go_ret2
  exact ⟨ret_ii HW.out.1 HW.out.2, rfl⟩

set_option maxHeartbeats 1000000 in
theorem set_any (b : Nat) (r l x t n : Int) (w : World) (h : Ck w b r l x) (hin : In t n) :
    Calls Tryd.prog 43 #[.pointer (some ⟨b, 0, none⟩), .int .i64 t, .int .i64 n] w fun e w' => e = .returned (.tuple #[]) ∧ Ck w' b r l (wd t n) ∧ w.grownBy w' (some b) := by
  have hc := h.c3
  have hz := h.f 3
  have H := hid (h.set3 (wd t n))
  have HW := hid (word_set hin)
  obtain ⟨y, hy⟩ : ∃ y, wd t n = y := ⟨_, rfl⟩
  rw [hy] at H HW ⊢
  clear hy hin h
  have hst := fun y => store64 (y := y) hc hz
  go_enter Tryd.func43, Tryd.ntmps43
  go_wp2
  go_end0
  go_wp2
  go_end0
  rw [HW.out]
  exact ⟨rfl, H.out, grown_set _ _ _ _⟩

set_option maxHeartbeats 1000000 in
theorem now_any (b : Nat) (r l t n : Int) (w : World) (h : Ck w b r l (wd t n)) (hin : In t n) :
    Calls Tryd.prog 31 #[.pointer (some ⟨b, 0, none⟩)] w fun e w' => e = .returned (.int .i64 t) ∧ w = w' := by
  have H := hid (both_any b r l t n w h hin)
  clear h hin
  go_enter Tryd.func31, Tryd.ntmps31
  go_wp2_with (go_at_call 42; refine H.out.mono ?_; rintro e w' ⟨rfl, rfl⟩)
  go_ret
  exact ⟨rfl, rfl⟩
set_option maxHeartbeats 1000000 in
theorem last_any (b : Nat) (r l t n : Int) (w : World) (h : Ck w b r l (wd t n)) (hin : In t n) :
    Calls Tryd.prog 32 #[.pointer (some ⟨b, 0, none⟩)] w fun e w' => e = .returned (.int .i64 n) ∧ w = w' := by
  have H := hid (both_any b r l t n w h hin)
  clear h hin
  go_enter Tryd.func32, Tryd.ntmps32
  go_wp2_with (go_at_call 42; refine H.out.mono ?_; rintro e w' ⟨rfl, rfl⟩)
  go_ret
  exact ⟨rfl, rfl⟩

/-- A new clock. -/
theorem new_any (r : Int) (w : World) (h : rr r = true) :
    Calls Tryd.prog 26 #[.int .i64 r] w fun e w' => ∃ b, e = .returned (.tuple #[.pointer (some ⟨b, 0, none⟩), .int .i64 0]) ∧ w.heap.size ≤ b ∧ Ck w' b r 0 (wd 0 0) ∧ Below w.heap.size w w' := by
  go_enter Tryd.func26, Tryd.ntmps26
  go_wp2_with (go_at_call 33; refine (rr_any r _).mono ?_; rintro e w' ⟨rfl, rfl⟩; rw [h])
  go_ret2
  exact ⟨_, rfl, Nat.le_refl _, heap_alloc_new w _, ba _ _⟩
theorem new_none (r : Int) (w : World) (h : rr r = false) :
    Calls Tryd.prog 26 #[.int .i64 r] w fun e w' => e = .returned (.tuple #[.pointer none, .int .i64 11]) ∧ w = w' := by
  go_enter Tryd.func26, Tryd.ntmps26
  go_wp2_with (go_at_call 33; refine (rr_any r _).mono ?_; rintro e w' ⟨rfl, rfl⟩; rw [h])
  go_ret2
  exact ⟨rfl, rfl⟩

end Go.Proofs.YtbcodkokacpioaaDoor
