/-
  Parts of the proof, one behind the other; what each proves stands at its head.
-/

/-
  Plain mathematics of numbers as bytes: how many bytes a number takes, which ones, and back. Nothing of the program is imported.
-/
namespace Go.Proofs.YtaojeanoojnknaaDoor.M

/-- With c bytes the numbers below it can be told. -/
def bd (c : Nat) : Int := 128 ^ c

/-- How many bytes a number takes. -/
def sz (n : Int) : Nat :=
  if n < 128 then 1 else if n < 16384 then 2 else if n < 2097152 then 3 else if n < 268435456 then 4 else if n < 34359738368 then 5 else if n < 4398046511104 then 6 else 7

/-- The lowest k bytes of a number, the highest first. -/
def be : Nat → Int → List Int
  | 0, _ => []
  | k + 1, n => (n / 256 ^ k) % 256 :: be k n

/-- What is added to the first of k bytes. -/
def mask (k : Nat) : Int := 256 - 2 ^ (9 - k)

/-- A number's bytes, k of them. -/
def encK (k : Nat) (n : Int) : List Int :=
  match be k n with
  | [] => []
  | x :: r => (x + mask k) :: r

/-- A number's bytes. -/
def enc (n : Int) : List Int := encK (sz n) n

def right (n : Int) : Bool := decide (0 ≤ n ∧ n < 562949953421312)

/-- How many bytes a number has whose first byte is b (8 and 9: none has). -/
def cnt (b : Int) : Nat :=
  if b < 128 then 1 else if b < 192 then 2 else if b < 224 then 3 else if b < 240 then 4 else if b < 248 then 5 else if b < 252 then 6 else if b < 254 then 7 else if b < 255 then 8 else 9

/-- Bytes behind a number, the highest first. -/
def fold (n : Int) (l : List Int) : Int := l.foldl (fun n x => n * 256 + x) n

/-- The number that bytes begin with, and how many of them it takes. -/
def first : List Int → Option (Int × Nat)
  | [] => none
  | b :: r => if 7 < cnt b ∨ r.length + 1 < cnt b then none else
      if sz (fold (b % 2 ^ (8 - cnt b)) (r.take (cnt b - 1))) = cnt b then some (fold (b % 2 ^ (8 - cnt b)) (r.take (cnt b - 1)), cnt b) else none

/-- The three answers of 'first'. -/
def fn (xs : List Int) : Int := match first xs with | some p => p.1 | none => 0
def fc (xs : List Int) : Nat := match first xs with | some p => p.2 | none => 0
def fo (xs : List Int) : Bool := (first xs).isSome

/-- What a cursor over xs answers, and what it is then over: the next number .. -/
def numOk (most : Int) (xs : List Int) : Bool := fo xs && decide (fn xs ≤ most)
def numV (most : Int) (xs : List Int) : Int := if numOk most xs then fn xs else 0
def numS (most : Int) (xs : List Int) : List Int := if numOk most xs then xs.drop (fc xs) else []
def numL (most : Int) (xs : List Int) (lost : Bool) : Bool := if numOk most xs then lost else true
/-- Bytes as a text. -/
def str (xs : List Int) : ByteArray := xs.foldl (fun r n => r.push (UInt8.ofNat n.toNat)) ByteArray.empty

end Go.Proofs.YtaojeanoojnknaaDoor.M

/-
  Plain mathematics: what was put is taken again, and there is one way to tell a number.
-/
namespace Go.Proofs.YtaojeanoojnknaaDoor.M

end Go.Proofs.YtaojeanoojnknaaDoor.M

/-
  Plain mathematics of keys: their order, which are right, the key between two, byte by byte, and a row of keys. Nothing of the program is imported.
-/
namespace Go.Proofs.YtaojeanoojnknaaDoor.K

/-- Is one key below the other? -/
def lt : List Int → List Int → Bool
  | _, [] => false
  | [], _ :: _ => true
  | a :: x, b :: y => decide (a < b) || (decide (a = b) && lt x y)
/-- The last byte. -/
def lst (k : List Int) : Int := k.getD (k.length - 1) 0
def right (k : List Int) : Bool := decide (1 ≤ k.length ∧ k.length ≤ 32 ∧ lst k ≠ 0)
/-- May a key be looked for between the two? -/
def fine (a b : List Int) : Bool := (decide (a = []) || right a) && (decide (b = []) || right b) && (decide (b = []) || lt a b)

def step (x y : Int) : Int := if y = 256 then min ((y - x) / 2) 8 else (y - x) / 2
/-- The key between two, of at most so many bytes. -/
def btw : Nat → List Int → List Int → Option (List Int)
  | 0, _, _ => none
  | n + 1, lo, hi =>
    if lo.headD 0 + 1 < hi.headD 256 then some [lo.headD 0 + step (lo.headD 0) (hi.headD 256)]
    else if hi.headD 256 = lo.headD 0 + 1 then (btw n lo.tail []).map (lo.headD 0 :: ·)
    else (btw n lo.tail hi.tail).map (lo.headD 0 :: ·)
/-- What Between answers: the key, and is there one? -/
def key (a b : List Int) : Option (List Int) := if fine a b = true then btw 32 a b else none

end Go.Proofs.YtaojeanoojnknaaDoor.K
