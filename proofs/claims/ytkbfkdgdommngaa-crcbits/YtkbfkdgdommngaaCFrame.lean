/-
  The plain mathematics of frames: what stands at the beginning of bytes; frames one behind the other are parted as they were made, cut anywhere too. Nothing of the program is imported.
-/
import Derived.Test.YtkbfkdgdommngaaCMath
namespace Go.Proofs.Ytkbfkdgdommngaa
set_option linter.unusedVariables false
namespace C

abbrev Bytes (l : List Int) : Prop := ∀ x ∈ l, 0 ≤ x ∧ x < 256

/-- Four bytes, the lowest first. -/
def le (n : Nat) : List Int := [(n : Int) % 256, (n : Int) / 256 % 256, (n : Int) / 65536 % 256, (n : Int) / 16777216 % 256]
/-- The number that they tell. -/
def wi (l : List Int) : Int := l.getD 0 0 + 256 * l.getD 1 0 + 65536 * l.getD 2 0 + 16777216 * l.getD 3 0
def wd (l : List Int) : Nat := (wi l).toNat
def bd (l : List Int) : List Int := (l.drop 8).take (wd l)
/-- What bytes begin with. -/
def wh (l : List Int) : Nat := if l.length < 8 then 1 else if 65536 < wd l then 2 else if l.length - 8 < wd l then 1 else if sum (bd l) = wd (l.drop 4) then 0 else 2
def frame (l : List Int) : List Int := le l.length ++ (le (sum l) ++ l)

theorem getD_byte {l : List Int} (h : Bytes l) (i : Nat) : 0 ≤ l.getD i 0 ∧ l.getD i 0 < 256 := by
  rw [List.getD_eq_getElem?_getD]
  by_cases hi : i < l.length
  · rw [List.getElem?_eq_getElem hi]; exact h _ (List.getElem_mem hi)
  · rw [List.getElem?_eq_none (by omega)]; exact ⟨by decide, by decide⟩
theorem wi_range {l : List Int} (h : Bytes l) : 0 ≤ wi l ∧ wi l < 4294967296 := by
  have h0 := getD_byte h 0
  have h1 := getD_byte h 1
  have h2 := getD_byte h 2
  have h3 := getD_byte h 3
  unfold wi
  omega
theorem wd_cast {l : List Int} (h : Bytes l) : (wd l : Int) = wi l := Int.toNat_of_nonneg (wi_range h).1
theorem Bytes.drop {l : List Int} (h : Bytes l) (n : Nat) : Bytes (l.drop n) := fun x hx => h x (List.mem_of_mem_drop hx)
theorem Bytes.take {l : List Int} (h : Bytes l) (n : Nat) : Bytes (l.take n) := fun x hx => h x (List.mem_of_mem_take hx)
theorem Bytes.append {l r : List Int} (h : Bytes l) (k : Bytes r) : Bytes (l ++ r) := fun x hx => by
  rcases List.mem_append.1 hx with h1 | h1
  · exact h x h1
  · exact k x h1
theorem le_bytes (n : Nat) : Bytes (le n) := by
  intro x hx
  simp [le] at hx
  omega
theorem le_length (n : Nat) : (le n).length = 4 := rfl
theorem frame_length (l : List Int) : (frame l).length = 8 + l.length := by simp [frame, le_length]; omega
theorem frame_bytes {l : List Int} (h : Bytes l) : Bytes (frame l) := (le_bytes _).append ((le_bytes _).append h)
theorem wi_le (n : Nat) (r : List Int) (h : n < 4294967296) : wi (le n ++ r) = n := by
  simp [wi, le]
  omega
theorem wd_le (n : Nat) (r : List Int) (h : n < 4294967296) : wd (le n ++ r) = n := by
  unfold wd
  rw [wi_le n r h]
  rfl
theorem drop4_frame (l r : List Int) : (frame l ++ r).drop 4 = le (sum l) ++ (l ++ r) := by simp [frame, le]
theorem drop8_frame (l r : List Int) : (frame l ++ r).drop 8 = l ++ r := by simp [frame, le]
theorem wd_frame (l r : List Int) (h : l.length ≤ 65536) : wd (frame l ++ r) = l.length := by
  rw [frame, List.append_assoc]
  exact wd_le _ _ (by omega)
theorem bd_frame (l r : List Int) (h : l.length ≤ 65536) : bd (frame l ++ r) = l := by
  rw [bd, wd_frame l r h, drop8_frame]
  simp
theorem wh_frame (l r : List Int) (hb : Bytes l) (h : l.length ≤ 65536) : wh (frame l ++ r) = 0 := by
  unfold wh
  rw [wd_frame l r h, bd_frame l r h, drop4_frame, wd_le _ _ (sum_lt hb), List.length_append, frame_length]
  rw [if_neg (by omega), if_neg (by omega), if_neg (by omega), if_pos rfl]
theorem drop_frame (l r : List Int) : (frame l ++ r).drop (8 + l.length) = r := by
  rw [← frame_length, List.drop_left]
theorem wi_take (l : List Int) (c : Nat) (h : 4 ≤ c) : wi (l.take c) = wi l := by
  unfold wi
  simp only [List.getD_eq_getElem?_getD, List.getElem?_take]
  rw [if_pos (by omega), if_pos (by omega), if_pos (by omega), if_pos (by omega)]
/-- A frame that is cut off. -/
theorem wh_cut (l r : List Int) (c : Nat) (h : l.length ≤ 65536) (hc : c < 8 + l.length) : wh ((frame l ++ r).take c) = 1 := by
  have hl : ((frame l ++ r).take c).length = c := by
    rw [List.length_take, List.length_append, frame_length]; omega
  unfold wh
  rw [hl]
  by_cases h8 : c < 8
  · rw [if_pos h8]
  · have hw : wd ((frame l ++ r).take c) = l.length := by
      unfold wd
      rw [wi_take _ _ (by omega)]
      exact wd_frame l r h
    rw [hw, if_neg h8, if_neg (by omega), if_pos (by omega)]

/-- What Split finds: the frames, the place behind the last one, what stands there. -/
def Sp : List Int → List (List Int) → Nat → Nat → Prop
  | xs, [], n, t => n = 0 ∧ ((xs = [] ∧ t = 0) ∨ (xs ≠ [] ∧ wh xs ≠ 0 ∧ t = wh xs))
  | xs, f :: fs, n, t => wh xs = 0 ∧ f = bd xs ∧ ∃ m, n = 8 + wd xs + m ∧ Sp (xs.drop (8 + wd xs)) fs m t

theorem Sp.done : Sp [] [] 0 0 := ⟨rfl, .inl ⟨rfl, rfl⟩⟩
theorem Sp.stop {xs : List Int} (h1 : xs ≠ []) (h2 : wh xs ≠ 0) : Sp xs [] 0 (wh xs) := ⟨rfl, .inr ⟨h1, h2, rfl⟩⟩
theorem Sp.more {xs : List Int} {fs : List (List Int)} {n t : Nat} (h1 : wh xs = 0) (h2 : Sp (xs.drop (8 + wd xs)) fs n t) : Sp xs (bd xs :: fs) (8 + wd xs + n) t := ⟨h1, rfl, n, rfl, h2⟩

theorem wh_nil : wh [] = 1 := rfl
theorem Sp.det {xs : List Int} {fs gs : List (List Int)} {m n t u : Nat} (h : Sp xs fs m t) (k : Sp xs gs n u) : fs = gs ∧ m = n ∧ t = u := by
  have other : ∀ {xs : List Int} {f : List Int} {hs : List (List Int)} {i j p q : Nat}, Sp xs [] i p → Sp xs (f :: hs) j q → False := by
    intro xs f hs i j p q h1 h2
    rcases h1.2 with ⟨rfl, _⟩ | ⟨_, h3, _⟩
    · have := h2.1
      simp [wh_nil] at this
    · exact h3 h2.1
  induction fs generalizing xs gs m n t u with
  | nil =>
    cases gs with
    | nil =>
      refine ⟨rfl, h.1.trans k.1.symm, ?_⟩
      rcases h.2 with ⟨h1, h2⟩ | ⟨h1, _, h2⟩ <;> rcases k.2 with ⟨k1, k2⟩ | ⟨k1, _, k2⟩
      · rw [h2, k2]
      · exact absurd h1 k1
      · exact absurd k1 h1
      · rw [h2, k2]
    | cons g gs => exact (other h k).elim
  | cons f fs ih =>
    cases gs with
    | nil => exact (other k h).elim
    | cons g gs =>
      obtain ⟨_, rfl, m', rfl, h4⟩ := h
      obtain ⟨_, rfl, n', rfl, k4⟩ := k
      obtain ⟨rfl, rfl, rfl⟩ := ih h4 k4
      exact ⟨rfl, rfl, rfl⟩

def cat (ls : List (List Int)) : List Int := ls.flatMap frame
theorem cat_cons (l : List Int) (ls : List (List Int)) : cat (l :: ls) = frame l ++ cat ls := by simp [cat]
theorem cat_append (ls ks : List (List Int)) : cat (ls ++ ks) = cat ls ++ cat ks := by simp [cat]
theorem cat_snoc (ls : List (List Int)) (l : List Int) : cat (ls ++ [l]) = cat ls ++ frame l := by simp [cat]

theorem Sp.frames {r : List Int} {fs : List (List Int)} {n t : Nat} (h : Sp r fs n t) (ls : List (List Int)) (hl : ∀ l ∈ ls, Bytes l ∧ l.length ≤ 65536) : Sp (cat ls ++ r) (ls ++ fs) ((cat ls).length + n) t := by
  induction ls with
  | nil => simpa [cat] using h
  | cons l ls ih =>
    have h1 := hl l (by simp)
    have h2 := ih (fun x hx => hl x (by simp [hx]))
    rw [cat_cons, List.append_assoc]
    have hw := wh_frame l (cat ls ++ r) h1.1 h1.2
    have hd := wd_frame l (cat ls ++ r) h1.2
    have hb := bd_frame l (cat ls ++ r) h1.2
    have h3 : Sp (frame l ++ (cat ls ++ r)) (bd (frame l ++ (cat ls ++ r)) :: (ls ++ fs)) (8 + wd (frame l ++ (cat ls ++ r)) + ((cat ls).length + n)) t := Sp.more hw (by rw [hd, drop_frame]; exact h2)
    rw [hb, hd] at h3
    rw [List.length_append, frame_length, Nat.add_assoc]
    exact h3

/-- Cut anywhere. -/
theorem Sp.cut (ls : List (List Int)) (hl : ∀ l ∈ ls, Bytes l ∧ l.length ≤ 65536) (k c : Nat) (hk : k ≤ ls.length) (h1 : (cat (ls.take k)).length ≤ c) (h2 : k < ls.length → c < (cat (ls.take (k + 1))).length) (h3 : c ≤ (cat ls).length) :
    Sp ((cat ls).take c) (ls.take k) (cat (ls.take k)).length (if (cat (ls.take k)).length = c then 0 else 1) := by
  have hcat : cat ls = cat (ls.take k) ++ cat (ls.drop k) := by rw [← cat_append, List.take_append_drop]
  have e : (cat ls).take c = cat (ls.take k) ++ (cat (ls.drop k)).take (c - (cat (ls.take k)).length) := by
    rw [hcat, List.take_append, List.take_of_length_le h1]
  have hall : ∀ l ∈ ls.take k, Bytes l ∧ l.length ≤ 65536 := fun l h => hl l (List.mem_of_mem_take h)
  by_cases hc : (cat (ls.take k)).length = c
  · rw [if_pos hc]
    have h4 := Sp.frames Sp.done (ls.take k) hall
    rw [e, show c - (cat (ls.take k)).length = 0 by omega, List.take_zero]
    simpa using h4
  · rw [if_neg hc]
    have hkl : k < ls.length := by
      rcases Nat.lt_or_ge k ls.length with h | h
      · exact h
      · rw [List.take_of_length_le h] at h1 hc; omega
    have h5 := h2 hkl
    rw [List.take_succ_eq_append_getElem hkl, cat_snoc, List.length_append, frame_length] at h5
    have hd : ls.drop k = ls[k] :: ls.drop (k + 1) := (List.getElem_cons_drop hkl).symm
    have hlk := hl ls[k] (List.getElem_mem hkl)
    have hw := wh_cut ls[k] (cat (ls.drop (k + 1))) (c - (cat (ls.take k)).length) hlk.2 (by omega)
    have hne : (frame ls[k] ++ cat (ls.drop (k + 1))).take (c - (cat (ls.take k)).length) ≠ [] := by
      intro h
      have := congrArg List.length h
      rw [List.length_take, List.length_append, frame_length] at this
      simp at this
      omega
    have h6 := Sp.stop hne (by rw [hw]; decide)
    rw [hw] at h6
    have h7 := Sp.frames h6 (ls.take k) hall
    rw [e, hd, cat_cons]
    simpa using h7

/-- A frame of which one byte behind the first four is another one is bad. -/
theorem wh_other (l : List Int) (q : Nat) (x : Int) (hb : Bytes l) (h : l.length ≤ 65536) (hq : 4 ≤ q) (hq2 : q < 8 + l.length) (hx : 0 ≤ x ∧ x < 256) (hne : x ≠ (frame l).getD q 0) : wh ((frame l).set q x) = 2 := by
  have hw : wd ((frame l).set q x) = l.length := by
    have e : wi ((frame l).set q x) = wi (frame l) := by
      unfold wi
      simp only [List.getD_eq_getElem?_getD, List.getElem?_set]
      rw [if_neg (by omega), if_neg (by omega), if_neg (by omega), if_neg (by omega)]
    unfold wd
    rw [e]
    have := wd_frame l [] h
    rw [List.append_nil] at this
    exact this
  unfold wh
  rw [hw, List.length_set, frame_length, if_neg (by omega), if_neg (by omega), if_neg (by omega)]
  rw [if_neg]
  by_cases h8 : q < 8
  · have e1 : bd ((frame l).set q x) = l := by
      rw [bd, hw, List.drop_set_of_lt h8]
      have := drop8_frame l []
      simp at this
      rw [this]
      simp
    have e2 : ((frame l).set q x).drop 4 = (le (sum l)).set (q - 4) x ++ l := by
      rw [List.drop_set, if_neg (by omega)]
      have := drop4_frame l []
      simp at this
      rw [this, List.set_append_left _ _ (by rw [le_length]; omega)]
    have e3 : (frame l).getD q 0 = (le (sum l)).getD (q - 4) 0 := by
      have := drop4_frame l []
      simp at this
      have e4 : ((frame l).drop 4).getD (q - 4) 0 = (frame l).getD q 0 := by
        simp [List.getD_eq_getElem?_getD, List.getElem?_drop, show 4 + (q - 4) = q by omega]
      rw [← e4, this]
      simp [List.getD_eq_getElem?_getD, List.getElem?_append, le_length, show q - 4 < 4 by omega]
    rw [e1, e2]
    rw [e3] at hne
    have hs := sum_lt hb
    have hq' : q - 4 = 0 ∨ q - 4 = 1 ∨ q - 4 = 2 ∨ q - 4 = 3 := by omega
    intro h9
    unfold wd at h9
    rcases hq' with e | e | e | e <;> rw [e] at h9 hne <;> simp [wi, le] at h9 hne <;> omega
  · have e1 : bd ((frame l).set q x) = l.set (q - 8) x := by
      rw [bd, hw, List.drop_set, if_neg (by omega)]
      have := drop8_frame l []
      simp at this
      rw [this]
      exact List.take_of_length_le (by simp)
    have e2 : wd (((frame l).set q x).drop 4) = sum l := by
      rw [List.drop_set, if_neg (by omega)]
      have := drop4_frame l []
      simp at this
      rw [this, List.set_append_right _ _ (by rw [le_length]; omega)]
      exact wd_le _ _ (sum_lt hb)
    have e3 : (frame l).getD q 0 = l.getD (q - 8) 0 := by
      have := drop8_frame l []
      simp at this
      have e4 : ((frame l).drop 8).getD (q - 8) 0 = (frame l).getD q 0 := by
        simp [List.getD_eq_getElem?_getD, List.getElem?_drop, show 8 + (q - 8) = q by omega]
      rw [← e4, this]
    rw [e1, e2]
    rw [e3] at hne
    exact sum_other hb (by omega) hx hne

end C
end Go.Proofs.Ytkbfkdgdommngaa
