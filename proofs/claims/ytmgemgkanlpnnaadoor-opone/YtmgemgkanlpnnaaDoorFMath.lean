/-
  Plain mathematics of keys: their order, which are right, the key between two, byte by byte, and a row of keys. Nothing of the program is imported.
-/
namespace Go.Proofs.YtmgemgkanlpnnaaDoor.K

/-- Is one key below the other? -/
def lt : List Int → List Int → Bool
  | _, [] => false
  | [], _ :: _ => true
  | a :: x, b :: y => decide (a < b) || (decide (a = b) && lt x y)
/-- Below, at, above. -/
def ord (a b : List Int) : Int := if lt a b = true then -1 else if lt b a = true then 1 else 0
/-- The last byte. -/
def lst (k : List Int) : Int := k.getD (k.length - 1) 0
def right (k : List Int) : Bool := decide (1 ≤ k.length ∧ k.length ≤ 32 ∧ lst k ≠ 0)
/-- All are bytes. -/
def Byt (k : List Int) : Prop := ∀ x ∈ k, 0 ≤ x ∧ x < 256
/-- May a key be looked for between the two? -/
def fine (a b : List Int) : Bool := (decide (a = []) || right a) && (decide (b = []) || right b) && (decide (b = []) || lt a b)

def step (x y : Int) : Int := if y = 256 then min ((y - x) / 2) 8 else (y - x) / 2
/-- The key between two, of at most so many bytes. -/
def btw : Nat → List Int → List Int → Option (List Int)
  | 0, _, _ => none
  | n + 1, lo, hi =>
    if lo.headD 0 + 1 < hi.headD 256 then some [lo.headD 0 + step (lo.headD 0) (hi.headD 256)]
    else if hi.headD 256 = lo.headD 0 + 1 then (btw n lo.tail []).map (lo.headD 0 :: ·)
    else (btw n lo.tail hi.tail).map (lo.headD 0 :: ·)
/-- What Between answers: the key, and is there one? -/
def key (a b : List Int) : Option (List Int) := if fine a b = true then btw 32 a b else none

theorem lt_irrefl (a : List Int) : lt a a = false := by
  induction a with
  | nil => rfl
  | cons x a ih => simp [lt, ih]
theorem lt_asymm : ∀ {a b : List Int}, lt a b = true → lt b a = false
  | _, [], h => by simp [lt] at h
  | [], _ :: _, _ => rfl
  | x :: a, y :: b, h => by
    simp [lt] at h ⊢
    rcases h with h | ⟨rfl, h⟩
    · exact ⟨by omega, fun e => by omega⟩
    · exact ⟨by omega, fun _ => lt_asymm h⟩
theorem lt_trans : ∀ {a b c : List Int}, lt a b = true → lt b c = true → lt a c = true
  | _, [], _, h, _ => by simp [lt] at h
  | _, _ :: _, [], _, h => by simp [lt] at h
  | [], _ :: _, _ :: _, _, _ => rfl
  | x :: a, y :: b, z :: c, h, k => by
    simp [lt] at h k ⊢
    rcases h with h | ⟨rfl, h⟩ <;> rcases k with k | ⟨rfl, k⟩
    · left; omega
    · left; omega
    · left; omega
    · right; exact ⟨rfl, lt_trans h k⟩
theorem lt_total : ∀ {a b : List Int}, lt a b = false → lt b a = false → a = b
  | [], [], _, _ => rfl
  | _ :: _, [], _, h => by simp [lt] at h
  | [], _ :: _, h, _ => by simp [lt] at h
  | x :: a, y :: b, h, k => by
    simp [lt] at h k
    have : x = y := by omega
    subst this
    rw [lt_total (h.2 rfl) (k.2 rfl)]
theorem lt_nil {k : List Int} (h : k ≠ []) : lt [] k = true := by
  cases k with
  | nil => exact absurd rfl h
  | cons x k => rfl
theorem ord_neg (a b : List Int) : decide (ord a b < 0) = lt a b := by
  unfold ord
  cases h : lt a b
  · by_cases k : lt b a = true <;> simp [k]
  · simp
theorem ord_geq (a b : List Int) : decide (0 ≤ ord a b) = !lt a b := by
  rw [← ord_neg]
  by_cases h : ord a b < 0
  · rw [decide_eq_false (by omega), decide_eq_true h]; rfl
  · rw [decide_eq_true (by omega), decide_eq_false h]; rfl

theorem ord_same (x : Int) (a b : List Int) : ord (x :: a) (x :: b) = ord a b := by simp [ord, lt]
theorem ord_less {x y : Int} (h : x < y) (a b : List Int) : ord (x :: a) (y :: b) = -1 := by simp [ord, lt, h]
theorem ord_more {x y : Int} (h : y < x) (a b : List Int) : ord (x :: a) (y :: b) = 1 := by
  have h1 : ¬ x < y := by omega
  have h2 : ¬ x = y := by omega
  simp [ord, lt, h, h1, h2]

theorem lst_cons {x : Int} {k : List Int} (h : k ≠ []) : lst (x :: k) = lst k := by
  cases k with
  | nil => exact absurd rfl h
  | cons y k => simp [lst]
theorem lst_one (x : Int) : lst [x] = x := rfl
theorem Byt.tail {k : List Int} (h : Byt k) : Byt k.tail := fun x hx => h x (List.mem_of_mem_tail hx)
theorem Byt.nil : Byt [] := fun x hx => by cases hx
theorem Byt.head {k : List Int} (h : Byt k) : 0 ≤ k.headD 0 ∧ k.headD 0 < 256 := by
  cases k with
  | nil => decide
  | cons x k => exact h x (by simp)
theorem Byt.high {k : List Int} (h : Byt k) : 0 ≤ k.headD 256 ∧ k.headD 256 ≤ 256 := by
  cases k with
  | nil => decide
  | cons x k => have := h x (by simp); simp; omega
theorem Byt.cons {x : Int} {k : List Int} (h0 : 0 ≤ x) (h1 : x < 256) (h : Byt k) : Byt (x :: k) := by
  intro y hy
  rcases List.mem_cons.1 hy with rfl | hy
  · exact ⟨h0, h1⟩
  · exact h y hy

/-- How far above the last byte stands: at least one, and below the upper end's. -/
theorem step_mid {x y : Int} (h : x + 1 < y) : 1 ≤ step x y ∧ x + step x y < y := by
  unfold step
  split <;> omega

/-- A key that is made: its bytes, its length, its last byte, above the lower end. -/
theorem btw_some : ∀ (n : Nat) (lo hi k : List Int), Byt lo → Byt hi → btw n lo hi = some k → Byt k ∧ 1 ≤ k.length ∧ k.length ≤ n ∧ lst k ≠ 0 ∧ lt lo k = true
  | 0, _, _, _, _, _, h => by simp [btw] at h
  | n + 1, lo, hi, k, hl, hh, h => by
    have h1 := hl.head
    have h2 := hh.high
    have goes : ∀ hi' : List Int, Byt hi' → (btw n lo.tail hi').map (lo.headD 0 :: ·) = some k → Byt k ∧ 1 ≤ k.length ∧ k.length ≤ n + 1 ∧ lst k ≠ 0 ∧ lt lo k = true := by
      intro hi' hh' e
      cases hb : btw n lo.tail hi' with
      | none => rw [hb] at e; simp at e
      | some k' =>
        rw [hb] at e
        simp only [Option.map_some, Option.some.injEq] at e
        subst e
        obtain ⟨a1, a2, a3, a4, a5⟩ := btw_some n lo.tail hi' k' hl.tail hh' hb
        have hne : k' ≠ [] := by intro e; rw [e] at a2; simp at a2
        refine ⟨a1.cons h1.1 h1.2, by simp, by simp; omega, by rw [lst_cons hne]; exact a4, ?_⟩
        cases lo with
        | nil => rfl
        | cons x lo => simp [lt]; simpa using a5
    unfold btw at h
    split at h
    · rename_i hy
      have hs := step_mid hy
      simp only [Option.some.injEq] at h
      subst h
      refine ⟨Byt.nil.cons (by omega) (by omega), by simp, by simp, by rw [lst_one]; omega, ?_⟩
      cases lo with
      | nil => rfl
      | cons x lo => simp at hs; simp [lt]; omega
    · split at h
      · exact goes [] Byt.nil h
      · exact goes hi.tail hh.tail h

/-- .. and below the upper one. -/
theorem btw_below : ∀ (n : Nat) (lo hi k : List Int), Byt lo → Byt hi → hi ≠ [] → lst hi ≠ 0 → lt lo hi = true → btw n lo hi = some k → lt k hi = true
  | 0, _, _, _, _, _, _, _, _, h => by simp [btw] at h
  | n + 1, lo, hi, k, hl, hh, hne, hz, hlt, h => by
    have h1 := hl.head
    obtain ⟨y, hi', rfl⟩ : ∃ y hi', hi = y :: hi' := by
      cases hi with
      | nil => exact absurd rfl hne
      | cons y hi' => exact ⟨y, hi', rfl⟩
    have hy := hh y (by simp)
    unfold btw at h
    by_cases hc : lo.headD 0 + 1 < (y :: hi').headD 256
    · rw [if_pos hc] at h
      simp only [List.headD_cons] at h hc
      have hs := step_mid hc
      simp only [Option.some.injEq] at h
      subst h
      have hs2 := hs.2
      simp only [lt, Bool.or_eq_true, decide_eq_true_eq]
      exact .inl hs2
    · rw [if_neg hc] at h
      by_cases he : (y :: hi').headD 256 = lo.headD 0 + 1
      · rw [if_pos he] at h
        simp only [List.headD_cons] at h hc he
        cases hb : btw n lo.tail [] with
        | none => rw [hb] at h; simp at h
        | some k' =>
          rw [hb] at h
          simp only [Option.map_some, Option.some.injEq] at h
          subst h
          simp only [lt, Bool.or_eq_true, decide_eq_true_eq]
          left
          omega
      · rw [if_neg he] at h
        simp only [List.headD_cons, List.tail_cons] at h hc he
        cases hb : btw n lo.tail hi' with
        | none => rw [hb] at h; simp at h
        | some k' =>
          rw [hb] at h
          simp only [Option.map_some, Option.some.injEq] at h
          subst h
          cases lo with
          | nil =>
            simp at hc he
            have hy0 : y = 0 := by omega
            subst hy0
            have hne' : hi' ≠ [] := by
              intro e
              subst e
              exact hz rfl
            rw [lst_cons hne'] at hz
            have := btw_below n [] hi' k' Byt.nil (fun x hx => hh x (by simp [hx])) hne' hz (lt_nil hne') (by simpa using hb)
            simp [lt, this]
          | cons x lo =>
            simp at hc he
            simp [lt] at hlt
            have hxy : x = y := by
              rcases hlt with hlt | ⟨e, _⟩
              · omega
              · exact e
            subst hxy
            have hlt' : lt lo hi' = true := by
              rcases hlt with hlt | ⟨_, e⟩
              · omega
              · exact e
            have hne' : hi' ≠ [] := by
              intro e
              subst e
              simp [lt] at hlt'
            rw [lst_cons hne'] at hz
            have := btw_below n lo hi' k' (fun x hx => hl x (by simp [hx])) (fun x hx => hh x (by simp [hx])) hne' hz hlt' (by simpa using hb)
            simp [lt, this]

/-- With more bytes than both ends have there is a key. -/
theorem btw_room : ∀ (n : Nat) (lo hi : List Int), Byt lo → Byt hi → lo.length + 1 ≤ n → hi.length + 1 ≤ n → ∃ k, btw n lo hi = some k
  | 0, _, _, _, _, h, _ => by omega
  | n + 1, lo, hi, hl, hh, h1, h2 => by
    have b1 := hl.head
    unfold btw
    split
    · exact ⟨_, rfl⟩
    · rename_i hc
      have hn : 1 ≤ n := by
        cases hi with
        | nil =>
          cases lo with
          | nil => simp at hc
          | cons x lo => simp at h1; omega
        | cons y hi => simp at h2; omega
      have hlt : lo.tail.length + 1 ≤ n := by rw [List.length_tail]; omega
      split
      · obtain ⟨k, hk⟩ := btw_room n lo.tail [] hl.tail Byt.nil hlt (by simpa using hn)
        exact ⟨_, by rw [hk]; rfl⟩
      · obtain ⟨k, hk⟩ := btw_room n lo.tail hi.tail hl.tail hh.tail hlt (by rw [List.length_tail]; omega)
        exact ⟨_, by rw [hk]; rfl⟩

theorem fine_parts {a b : List Int} (h : fine a b = true) : (a = [] ∨ right a = true) ∧ (b = [] ∨ right b = true) ∧ (b = [] ∨ lt a b = true) := by
  simpa [fine, and_assoc] using h

/-- A key that is made is right, above the lower end and below the upper one. -/
theorem key_some {a b k : List Int} (ha : Byt a) (hb : Byt b) (h : key a b = some k) : Byt k ∧ right k = true ∧ lt a k = true ∧ (b = [] ∨ lt k b = true) := by
  unfold key at h
  split at h
  · rename_i hf
    obtain ⟨f1, f2, f3⟩ := fine_parts hf
    obtain ⟨k1, k2, k3, k4, k5⟩ := btw_some 32 a b k ha hb h
    refine ⟨k1, by simp [right]; exact ⟨k2, k3, k4⟩, k5, ?_⟩
    by_cases hb0 : b = []
    · exact .inl hb0
    · right
      have hr := f2.resolve_left hb0
      simp [right] at hr
      exact btw_below 32 a b k ha hb hb0 hr.2.2 (f3.resolve_left hb0) h
  · cases h
/-- Where none is made the ends aren't fine, or one is long. -/
theorem key_none {a b : List Int} (ha : Byt a) (hb : Byt b) (h : key a b = none) : fine a b = false ∨ 31 ≤ a.length ∨ 31 ≤ b.length := by
  unfold key at h
  split at h
  · right
    by_cases h1 : 31 ≤ a.length
    · exact .inl h1
    · by_cases h2 : 31 ≤ b.length
      · exact .inr h2
      · obtain ⟨k, hk⟩ := btw_room 32 a b ha hb (by omega) (by omega)
        rw [hk] at h
        cases h
  · rename_i hf
    exact .inl (by simpa using hf)

/-- The keys of a row, from the first on. -/
def nth : Nat → List Int
  | 0 => []
  | n + 1 => (key (nth n) []).getD []
/-- Is there a key so many times, one behind the other? -/
def runs : Nat → List Int → Bool
  | 0, _ => true
  | n + 1, k => match key k [] with
    | none => false
    | some k' => runs n k'
theorem runs_row : runs 400 [] = true := by decide +kernel
theorem runs_nth : ∀ (m n : Nat), runs m (nth n) = true → ∀ i, i < m → key (nth (n + i)) [] = some (nth (n + i + 1))
  | 0, _, _, _, hi => by omega
  | m + 1, n, h, i, hi => by
    unfold runs at h
    split at h
    · cases h
    · rename_i k hk
      have e : nth (n + 1) = k := by simp [nth, hk]
      cases i with
      | zero => simp only [Nat.add_zero]; rw [e]; exact hk
      | succ i =>
        rw [← e] at h
        have := runs_nth m (n + 1) h i (by omega)
        rw [show n + (i + 1) = n + 1 + i by omega]
        exact this
theorem nth_key {i : Nat} (h : i < 400) : key (nth i) [] = some (nth (i + 1)) := by
  have := runs_nth 400 0 runs_row i h
  simpa using this
theorem nth_byt : ∀ i, i ≤ 400 → Byt (nth i)
  | 0, _ => Byt.nil
  | i + 1, h => (key_some (nth_byt i (by omega)) Byt.nil (nth_key (by omega))).1
theorem nth_right {i : Nat} (h : i < 400) : right (nth (i + 1)) = true ∧ lt (nth i) (nth (i + 1)) = true := by
  have := key_some (nth_byt i (by omega)) Byt.nil (nth_key h)
  exact ⟨this.2.1, this.2.2.1⟩

/-- The rounds in which a key is made: so many bytes are there, and the rest is a key between what is left of the ends. -/
def At (R : Option (List Int)) (lo hi mk : List Int) (i : Nat) : Prop := R = (btw (32 - i) (lo.drop i) (hi.drop i)).map (mk ++ ·)
theorem at_start (lo hi : List Int) : At (btw 32 lo hi) lo hi [] 0 := by
  unfold At
  simp
theorem at_last {R : Option (List Int)} {lo hi mk : List Int} {i : Nat} {x y : Int} (h : At R lo hi mk i) (hi32 : i < 32) (hx : (lo.drop i).headD 0 = x) (hy : (hi.drop i).headD 256 = y) (h1 : x + 1 < y) : R = some (mk ++ [x + step x y]) := by
  unfold At at h
  obtain ⟨n, hn⟩ : ∃ n, 32 - i = n + 1 := ⟨32 - i - 1, by omega⟩
  rw [h, hn, btw, hx, hy, if_pos h1]
  rfl
theorem at_one {R : Option (List Int)} {lo hi mk : List Int} {i : Nat} {x y : Int} (h : At R lo hi mk i) (hi32 : i < 32) (hx : (lo.drop i).headD 0 = x) (hy : (hi.drop i).headD 256 = y) (h1 : y = x + 1) : At R lo [] (mk ++ [x]) (i + 1) := by
  unfold At at h ⊢
  obtain ⟨n, hn⟩ : ∃ n, 32 - i = n + 1 := ⟨32 - i - 1, by omega⟩
  rw [h, hn, btw, hx, hy, if_neg (by omega), if_pos h1, List.tail_drop, Option.map_map, show 32 - (i + 1) = n by omega, List.drop_nil]
  congr 1
  funext l
  simp
theorem at_same {R : Option (List Int)} {lo hi mk : List Int} {i : Nat} {x y : Int} (h : At R lo hi mk i) (hi32 : i < 32) (hx : (lo.drop i).headD 0 = x) (hy : (hi.drop i).headD 256 = y) (h1 : ¬ x + 1 < y) (h2 : y ≠ x + 1) : At R lo hi (mk ++ [x]) (i + 1) := by
  unfold At at h ⊢
  obtain ⟨n, hn⟩ : ∃ n, 32 - i = n + 1 := ⟨32 - i - 1, by omega⟩
  rw [h, hn, btw, hx, hy, if_neg h1, if_neg h2, List.tail_drop, List.tail_drop, Option.map_map, show 32 - (i + 1) = n by omega]
  congr 1
  funext l
  simp
theorem at_end {R : Option (List Int)} {lo hi mk : List Int} (h : At R lo hi mk 32) : R = none := by
  unfold At at h
  rw [h]
  rfl

end Go.Proofs.YtmgemgkanlpnnaaDoor.K
