/-
  Parts of the proof, one behind the other; what each proves stands at its head.
-/
import Derived.WalkKit
import Derived.Laws.BitsLemmas

namespace Go.Proofs.YtkcjkncpaopjbaaGreatDoor
set_option linter.unusedVariables false
set_option maxRecDepth 100000
namespace C
def step (n:Nat):Nat:=if n % 2=1 then (n / 2) ^^^ 3988292384 else n / 2
def steps:Nat→Nat→Nat
 | 0,n=>n
 | k+1,n=>steps k (step n)
def eat (n:Nat) (b:Int):Nat:=steps 8 (n ^^^ b.toNat)
def run (n:Nat) (l:List Int):Nat:=l.foldl eat n
def sum (l:List Int):Nat:=run 4294967295 l ^^^ 4294967295
theorem qlf (n:Nat):step n=(n / 2) ^^^ (if n % 2=1 then 3988292384 else 0):=by
 unfold step;split<;>simp
theorem qwt (a b:Nat):(a ^^^ b) / 2=(a / 2) ^^^ (b / 2):=by
 have:=Nat.xor_div_two_pow (a:=a) (b:=b) (n:=1)
 simpa using this
theorem qws (a b:Nat):(a ^^^ b) % 2=(a+b) % 2:=by
 have h:=Nat.xor_mod_two_pow (a:=a) (b:=b) (n:=1)
 rw [show 2 ^ 1=2 from rfl] at h
 rw [h]
 rcases Nat.mod_two_eq_zero_or_one a with ha | ha<;>rcases Nat.mod_two_eq_zero_or_one b with hb | hb<;>rw [ha,hb,Nat.add_mod,ha,hb]<;>rfl
theorem qwr (a b c d:Nat):(a ^^^ b) ^^^ (c ^^^ d)=(a ^^^ c) ^^^ (b ^^^ d):=by
 rw [Nat.xor_assoc,←Nat.xor_assoc b c d,Nat.xor_comm b c,Nat.xor_assoc c b d,←Nat.xor_assoc]
theorem qxi (a b:Nat):step (a ^^^ b)=step a ^^^ step b:=by
 rw [qlf,qlf,qlf,qwt,qwr (a / 2)]
 congr 1
 have h:=qws a b
 rcases Nat.mod_two_eq_zero_or_one a with ha | ha<;>rcases Nat.mod_two_eq_zero_or_one b with hb | hb
 ·rw [if_neg (by omega),if_neg (by omega),if_neg (by omega)];rfl
 ·rw [if_pos (by omega),if_neg (by omega),if_pos (by omega)];rfl
 ·rw [if_pos (by omega),if_pos (by omega),if_neg (by omega)];rfl
 ·rw [if_neg (by omega),if_pos (by omega),if_pos (by omega)];rfl
theorem qtp (k a b:Nat):steps k (a ^^^ b)=steps k a ^^^ steps k b:=by
 induction k generalizing a b with
 | zero=>rfl
 | succ k ih=>rw [steps,steps,steps,qxi,ih]
theorem steps_add (j k n:Nat):steps (j+k) n=steps k (steps j n):=by
 induction j generalizing n with
 | zero=>rw [Nat.zero_add];rfl
 | succ j ih=>rw [Nat.succ_add];exact ih _
theorem steps_snoc (k n:Nat):steps (k+1) n=step (steps k n):=steps_add k 1 n
theorem jar {n:Nat}(h:n<4294967296):step n<4294967296:=by
 rw [qlf]
 have h1:n / 2<2 ^ 32:=by omega
 split
 ·exact Nat.xor_lt_two_pow (n:=32) h1 (by decide)
 ·exact Nat.xor_lt_two_pow (n:=32) h1 (by decide)
theorem steps_lt (k:Nat) {n:Nat}(h:n<4294967296):steps k n<4294967296:=by
 induction k generalizing n with
 | zero=>exact h
 | succ k ih=>exact ih (jar h)
theorem xor_lt {a b:Nat}(ha:a<4294967296) (hb:b<4294967296):a ^^^ b<4294967296:=Nat.xor_lt_two_pow (n:=32) ha hb
theorem qgp (m:Nat):step (2*m)=m:=by unfold step;rw [if_neg (by omega)];omega
theorem qxh (m:Nat):steps 4 (16*m)=m:=by
 simp only [steps]
 rw [show 16*m=2*(2*(2*(2*m))) by omega,qgp,qgp,qgp,qgp]
theorem jbb (n:Nat):n=(16*(n / 16)) ^^^ (n % 16):=by
 apply Nat.eq_of_testBit_eq
 intro i
 rw [Nat.testBit_xor,show 16=2 ^ 4 from rfl,Nat.testBit_two_pow_mul,Nat.testBit_mod_two_pow,Nat.testBit_div_two_pow]
 by_cases h:4≤i
 ·simp [h,show ¬ i<4 by omega,show i - 4+4=i by omega]
 ·simp [h,show i<4 by omega]
theorem nibble (n:Nat):(n / 16) ^^^ steps 4 (n % 16)=steps 4 n:=by
 conv=>rhs;rw [jbb n,qtp,qxh]
theorem eat_lt {n:Nat}{b:Int}(h:n<4294967296) (h0:0≤b) (h1:b<256):eat n b<4294967296:=steps_lt 8 (xor_lt h (by omega))
theorem run_snoc (n:Nat) (l:List Int) (b:Int):run n (l++[b])=eat (run n l) b:=by simp [run]
theorem qxo (n:Nat) (l:List Int) (b:Int):run n (b::l)=run (eat n b) l:=rfl
theorem run_lt {n:Nat}{l:List Int}(h:n<4294967296) (hl:∀ x ∈ l,0≤x∧x<256):run n l<4294967296:=by
 induction l generalizing n with
 | nil=>exact h
 | cons b l ih =>
  rw [qxo]
  have hb:=hl b (by simp)
  exact ih (eat_lt h hb.1 hb.2) (fun x hx=>hl x (by simp [hx]))
theorem sum_lt {l:List Int}(hl:∀ x ∈ l,0≤x∧x<256):sum l<4294967296:=xor_lt (run_lt (by decide) hl) (by decide)
def x3 (a b c:Int):Int:=((a.toNat ^^^ b.toNat ^^^ c.toNat:Nat):Int)
end C
end Go.Proofs.YtkcjkncpaopjbaaGreatDoor

namespace Go.Proofs.YtkcjkncpaopjbaaGreatDoor
set_option linter.unusedVariables false
set_option maxRecDepth 100000
namespace C
abbrev Bytes (l:List Int):Prop:=∀ x ∈ l,0≤x∧x<256
def le (n:Nat):List Int:=[(n:Int) % 256,(n:Int) / 256 % 256,(n:Int) / 65536 % 256,(n:Int) / 16777216 % 256]
def wi (l:List Int):Int:=l.getD 0 0+256*l.getD 1 0+65536*l.getD 2 0+16777216*l.getD 3 0
def wd (l:List Int):Nat:=(wi l).toNat
def bd (l:List Int):List Int:=(l.drop 8).take (wd l)
def wh (l:List Int):Nat:=if l.length<8 then 1 else if 65536<wd l then 2 else if l.length - 8<wd l then 1 else if sum (bd l)=wd (l.drop 4) then 0 else 2
def frame (l:List Int):List Int:=le l.length++(le (sum l)++l)
theorem getD_byte {l:List Int}(h:Bytes l) (i:Nat):0≤l.getD i 0∧l.getD i 0<256:=by
 rw [List.getD_eq_getElem?_getD]
 by_cases hi:i<l.length
 ·rw [List.getElem?_eq_getElem hi];exact h _ (List.getElem_mem hi)
 ·rw [List.getElem?_eq_none (by omega)];exact ⟨by decide,by decide⟩
theorem wi_range {l:List Int}(h:Bytes l):0≤wi l∧wi l<4294967296:=by
 have h0:=getD_byte h 0
 have h1:=getD_byte h 1
 have h2:=getD_byte h 2
 have h3:=getD_byte h 3
 unfold wi
 omega
theorem wd_cast {l:List Int}(h:Bytes l):(wd l:Int)=wi l:=Int.toNat_of_nonneg (wi_range h).1
theorem Bytes.drop {l:List Int}(h:Bytes l) (n:Nat):Bytes (l.drop n):=fun x hx=>h x (List.mem_of_mem_drop hx)
theorem Bytes.take {l:List Int}(h:Bytes l) (n:Nat):Bytes (l.take n):=fun x hx=>h x (List.mem_of_mem_take hx)
theorem Bytes.append {l r:List Int}(h:Bytes l) (k:Bytes r):Bytes (l++r):=fun x hx=>by
 rcases List.mem_append.1 hx with h1 | h1
 ·exact h x h1
 ·exact k x h1
theorem le_bytes (n:Nat):Bytes (le n):=by
 intro x hx
 simp [le] at hx
 omega
theorem le_length (n:Nat):(le n).length=4:=rfl
theorem frame_length (l:List Int):(frame l).length=8+l.length:=by simp [frame,le_length];omega
theorem frame_bytes {l:List Int}(h:Bytes l):Bytes (frame l):=(le_bytes _).append ((le_bytes _).append h)
theorem wi_le (n:Nat) (r:List Int) (h:n<4294967296):wi (le n++r)=n:=by
 simp [wi,le]
 omega
theorem wd_le (n:Nat) (r:List Int) (h:n<4294967296):wd (le n++r)=n:=by
 unfold wd
 rw [wi_le n r h]
 rfl
theorem qps (l r:List Int):(frame l++r).drop 4=le (sum l)++(l++r):=by simp [frame,le]
theorem qpr (l r:List Int):(frame l++r).drop 8=l++r:=by simp [frame,le]
theorem wd_frame (l r:List Int) (h:l.length≤65536):wd (frame l++r)=l.length:=by
 rw [frame,List.append_assoc]
 exact wd_le _ _ (by omega)
theorem bd_frame (l r:List Int) (h:l.length≤65536):bd (frame l++r)=l:=by
 rw [bd,wd_frame l r h,qpr]
 simp
theorem wh_frame (l r:List Int) (hb:Bytes l) (h:l.length≤65536):wh (frame l++r)=0:=by
 unfold wh
 rw [wd_frame l r h,bd_frame l r h,qps,wd_le _ _ (sum_lt hb),List.length_append,frame_length]
 rw [if_neg (by omega),if_neg (by omega),if_neg (by omega),if_pos rfl]
theorem drop_frame (l r:List Int):(frame l++r).drop (8+l.length)=r:=by
 rw [←frame_length,List.drop_left]
theorem jam (l:List Int) (c:Nat) (h:4≤c):wi (l.take c)=wi l:=by
 unfold wi
 simp only [List.getD_eq_getElem?_getD,List.getElem?_take]
 rw [if_pos (by omega),if_pos (by omega),if_pos (by omega),if_pos (by omega)]
theorem wh_cut (l r:List Int) (c:Nat) (h:l.length≤65536) (hc:c<8+l.length):wh ((frame l++r).take c)=1:=by
 have hl:((frame l++r).take c).length=c:=by
  rw [List.length_take,List.length_append,frame_length];omega
 unfold wh
 rw [hl]
 by_cases h8:c<8
 ·rw [if_pos h8]
 ·have hw:wd ((frame l++r).take c)=l.length:=by
   unfold wd
   rw [jam _ _ (by omega)]
   exact wd_frame l r h
  rw [hw,if_neg h8,if_neg (by omega),if_pos (by omega)]
def Sp:List Int→List (List Int)→Nat→Nat→Prop
 | xs,[],n,t=>n=0∧((xs=[]∧t=0)∨(xs≠[]∧wh xs≠0∧t=wh xs))
 | xs,f::fs,n,t=>wh xs=0∧f=bd xs∧∃ m,n=8+wd xs+m∧Sp (xs.drop (8+wd xs)) fs m t
theorem Sp.done:Sp [] [] 0 0:=⟨rfl,.inl ⟨rfl,rfl⟩⟩
theorem Sp.stop {xs:List Int}(h1:xs≠[]) (h2:wh xs≠0):Sp xs [] 0 (wh xs):=⟨rfl,.inr ⟨h1,h2,rfl⟩⟩
theorem Sp.more {xs:List Int}{fs:List (List Int)}{n t:Nat}(h1:wh xs=0) (h2:Sp (xs.drop (8+wd xs)) fs n t):Sp xs (bd xs::fs) (8+wd xs+n) t:=⟨h1,rfl,n,rfl,h2⟩
def cat (ls:List (List Int)):List Int:=ls.flatMap frame
theorem cat_cons (l:List Int) (ls:List (List Int)):cat (l::ls)=frame l++cat ls:=by simp [cat]
theorem cat_append (ls ks:List (List Int)):cat (ls++ks)=cat ls++cat ks:=by simp [cat]
theorem cat_snoc (ls:List (List Int)) (l:List Int):cat (ls++[l])=cat ls++frame l:=by simp [cat]
end C
end Go.Proofs.YtkcjkncpaopjbaaGreatDoor

namespace Go.Proofs.YtkcjkncpaopjbaaGreatDoor
open Go.RowKit
set_option linter.unusedVariables false
set_option maxRecDepth 100000
theorem qsz (k:IntKind) (j:Nat) (hj:j≤k.bits) (hk:∀ n:Int,0≤n→n<2 ^ j→k.wrap n=n) (a b:Nat) (ha:a<2 ^ j) (hb:b<2 ^ j) :
  bits .xor k a b=((a ^^^ b:Nat):Int):=by
 have hp:2 ^ j≤2 ^ k.bits:=Nat.pow_le_pow_right (by decide) hj
 have ha':a % 2 ^ k.bits=a:=Nat.mod_eq_of_lt (Nat.lt_of_lt_of_le ha hp)
 have hb':b % 2 ^ k.bits=b:=Nat.mod_eq_of_lt (Nat.lt_of_lt_of_le hb hp)
 have cast:∀ n:Nat,n<2 ^ j→((n:Nat):Int)<2 ^ j:=fun n h=>by exact_mod_cast h
 simp only [bits,BitVec.ofInt_natCast,BitVec.toNat_xor,BitVec.toNat_ofNat,ha',hb']
 exact hk _ (Int.natCast_nonneg _) (cast _ (Nat.xor_lt_two_pow ha hb))
theorem qhg (n:Int) (h₀:0≤n) (h₁:n<2 ^ 32):IntKind.u32.wrap n=n:=by rw [IntKind.wrap_u32];omega
theorem qkb (n:Int) (h₀:0≤n) (h₁:n<2 ^ 62):IntKind.i64.wrap n=n:=by rw [IntKind.wrap_i64];omega
theorem qkz (a b:Nat) (ha:a<4294967296) (hb:b<4294967296):bits .xor .u32 (a:Int) (b:Int)=((a ^^^ b:Nat):Int):=qsz .u32 32 (by decide) qhg a b ha hb
theorem qny (a b:Nat) (ha:a<4294967296) (hb:b<4294967296):bits .xor .i64 (a:Int) (b:Int)=((a ^^^ b:Nat):Int):=qsz .i64 62 (by decide) qkb a b (by omega) (by omega)
theorem qzr (a:Nat) (ha:a<4294967296):bits .and .u32 (a:Int) 1=((a % 2:Nat):Int):=by
 have:=bits_mask .u32 32 (by decide) qhg 1 (by decide) (a:Int) (by omega) (by omega)
 simpa using this
theorem qwp (a:Nat) (ha:a<4294967296):bits .and .u32 (a:Int) 15=((a % 16:Nat):Int):=by
 have:=bits_mask .u32 32 (by decide) qhg 4 (by decide) (a:Int) (by omega) (by omega)
 simpa using this
theorem jbj (a:Nat) (ha:a<4294967296):bits .xor .u32 IntKind.u32.max (a:Int)=((a ^^^ 4294967295:Nat):Int):=by
 rw [Nat.xor_comm]
 exact qkz 4294967295 a (by decide) ha
end Go.Proofs.YtkcjkncpaopjbaaGreatDoor
