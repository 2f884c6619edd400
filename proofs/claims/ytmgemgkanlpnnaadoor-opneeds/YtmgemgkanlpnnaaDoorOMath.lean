/-
  Ops as data: which are right, their bytes, and what is read of bytes. Nothing of the program is walked here.
-/
import Derived.Test.YtmgemgkanlpnnaaDoorCode
import Derived.Test.YtmgemgkanlpnnaaDoorFStr
import Derived.Test.YtmgemgkanlpnnaaDoorSRight
import Derived.Test.YtmgemgkanlpnnaaDoorCur
namespace Go.Proofs.YtmgemgkanlpnnaaDoor
open Go.RowKit
set_option linter.unusedVariables false
set_option maxRecDepth 100000

/-- A cut; an op. -/
structure Ct where
  (r n f t : Int)
structure Opn where
  (k ir im t br bm pr pm : Int)
  (key : ByteArray)
  (sr sm lr lm li gr gm gi : Int)
  (text : ByteArray)
  (cuts : List Ct)
  (flag : Bool)
def Ct.zero : Ct := ⟨0, 0, 0, 0⟩
def Opn.zero : Opn := ⟨0, 0, 0, 0, 0, 0, 0, 0, ⟨#[]⟩, 0, 0, 0, 0, 0, 0, 0, 0, ⟨#[]⟩, [], false⟩

/-- A block's name; a character; a cut. -/
def rb (r n : Int) : Bool := decide (n = 0 ∧ (r = 0 ∨ r = 1)) || ro r n
def rc (r n i : Int) : Bool := decide (r = 0 ∧ n = 0 ∧ i = 0) || (ro r n && decide (0 ≤ i ∧ i < 64))
def rct (c : Ct) : Bool := ro c.r c.n && decide (0 ≤ c.f ∧ c.f < c.t ∧ c.t ≤ 64)

/-- The fields that a kind tells, by their numbers. -/
def told (k : Int) : List Nat :=
  if k = 1 then [1, 2] else if k = 2 then [0, 1, 2] else if k = 3 then [3, 4, 5, 6] else if k = 4 then [7] else if k = 5 then [3, 4, 5, 1, 2] else if k = 6 then [0, 8] else []

def rightF (o : Opn) : Nat → Bool
  | 0 => ro o.br o.bm
  | 1 => rb o.pr o.pm
  | 2 => K.right (tx o.key)
  | 3 => ro o.sr o.sm
  | 4 => rc o.lr o.lm o.li
  | 5 => rc o.gr o.gm o.gi
  | 6 => decide (1 ≤ o.text.size ∧ o.text.size ≤ 64)
  | 7 => decide (1 ≤ o.cuts.length ∧ o.cuts.length ≤ 16) && o.cuts.all rct
  | _ => true
def noughtF (o : Opn) : Nat → Bool
  | 0 => decide (o.br = 0 ∧ o.bm = 0)
  | 1 => decide (o.pr = 0 ∧ o.pm = 0)
  | 2 => decide (o.key.size = 0)
  | 3 => decide (o.sr = 0 ∧ o.sm = 0)
  | 4 => decide (o.lr = 0 ∧ o.lm = 0 ∧ o.li = 0)
  | 5 => decide (o.gr = 0 ∧ o.gm = 0 ∧ o.gi = 0)
  | 6 => decide (o.text.size = 0)
  | 7 => decide (o.cuts.length = 0)
  | _ => !o.flag
def goodF (o : Opn) (f : Nat) : Bool := if f ∈ told o.k then rightF o f else noughtF o f
def rightO (o : Opn) : Bool := ro o.ir o.im && rs o.t o.ir && (List.range 9).all (goodF o) && !(told o.k).isEmpty

/-- Bytes. -/
def en2 (a b : Int) : List Int := M.enc a ++ M.enc b
def en3 (a b c : Int) : List Int := M.enc a ++ M.enc b ++ M.enc c
def enC (c : Ct) : List Int := M.enc c.r ++ M.enc c.n ++ M.enc c.f ++ M.enc c.t
def encF (o : Opn) : Nat → List Int
  | 0 => en2 o.br o.bm
  | 1 => en2 o.pr o.pm
  | 2 => M.encText o.key
  | 3 => en2 o.sr o.sm
  | 4 => en3 o.lr o.lm o.li
  | 5 => en3 o.gr o.gm o.gi
  | 6 => M.encText o.text
  | 7 => M.enc o.cuts.length ++ o.cuts.flatMap enC
  | _ => M.enc (if o.flag then 1 else 0)
def encO (o : Opn) : List Int := (M.enc o.k ++ M.enc o.ir ++ M.enc o.im ++ M.enc o.t) ++ (told o.k).flatMap (encF o)

/-- What is left to read, and whether the cursor is lost. -/
abbrev St := List Int × Bool
def rn (m : Int) (s : St) : Int × St := (M.numV m s.1, (M.numS m s.1, M.numL m s.1 s.2))
def rt (m : Int) (s : St) : ByteArray × St := (M.str (M.textV m s.1), (M.textS m s.1, M.textL m s.1 s.2))
/-- The bounds by which numbers and texts are read. -/
structure Bnd where
  (k t r n i key text ft : Int)
def rcut (B : Bnd) (s : St) : Ct × St :=
  (⟨(rn B.r s).1, (rn B.n (rn B.r s).2).1, (rn B.ft (rn B.n (rn B.r s).2).2).1, (rn B.ft (rn B.ft (rn B.n (rn B.r s).2).2).2).1⟩, (rn B.ft (rn B.ft (rn B.n (rn B.r s).2).2).2).2)
def rcuts (B : Bnd) : Nat → St → List Ct × St
  | 0, s => ([], s)
  | j + 1, s => ((rcuts B j s).1 ++ [(rcut B (rcuts B j s).2).1], (rcut B (rcuts B j s).2).2)
def rdF (B : Bnd) (f : Nat) (p : Opn × St) : Opn × St :=
  match f with
  | 0 => ({ p.1 with br := (rn B.r p.2).1, bm := (rn B.n (rn B.r p.2).2).1 }, (rn B.n (rn B.r p.2).2).2)
  | 1 => ({ p.1 with pr := (rn B.r p.2).1, pm := (rn B.n (rn B.r p.2).2).1 }, (rn B.n (rn B.r p.2).2).2)
  | 2 => ({ p.1 with key := (rt B.key p.2).1 }, (rt B.key p.2).2)
  | 3 => ({ p.1 with sr := (rn B.r p.2).1, sm := (rn B.n (rn B.r p.2).2).1 }, (rn B.n (rn B.r p.2).2).2)
  | 4 => ({ p.1 with lr := (rn B.r p.2).1, lm := (rn B.n (rn B.r p.2).2).1, li := (rn B.i (rn B.n (rn B.r p.2).2).2).1 }, (rn B.i (rn B.n (rn B.r p.2).2).2).2)
  | 5 => ({ p.1 with gr := (rn B.r p.2).1, gm := (rn B.n (rn B.r p.2).2).1, gi := (rn B.i (rn B.n (rn B.r p.2).2).2).1 }, (rn B.i (rn B.n (rn B.r p.2).2).2).2)
  | 6 => ({ p.1 with text := (rt B.text p.2).1 }, (rt B.text p.2).2)
  | 7 => ({ p.1 with cuts := (rcuts B (rn 16 p.2).1.toNat (rn 16 p.2).2).1 }, (rcuts B (rn 16 p.2).1.toNat (rn 16 p.2).2).2)
  | _ => ({ p.1 with flag := (rn 1 p.2).1 == 1 }, (rn 1 p.2).2)
def rdH (B : Bnd) (b : List Int) : Opn × St :=
  ({ Opn.zero with k := (rn B.k (b, false)).1, ir := (rn B.r (rn B.k (b, false)).2).1, im := (rn B.n (rn B.r (rn B.k (b, false)).2).2).1, t := (rn B.t (rn B.n (rn B.r (rn B.k (b, false)).2).2).2).1 }, (rn B.t (rn B.n (rn B.r (rn B.k (b, false)).2).2).2).2)
def rdO (B : Bnd) (b : List Int) : Opn × St := (told (rdH B b).1.k).foldl (fun p f => rdF B f p) (rdH B b)
def decB (p : Opn × St) : Bool := !p.2.2 && p.2.1.isEmpty && rightO p.1
def decO (B : Bnd) (b : List Int) : Opn × Bool := if decB (rdO B b) then ((rdO B b).1, true) else (Opn.zero, false)

end Go.Proofs.YtmgemgkanlpnnaaDoor
