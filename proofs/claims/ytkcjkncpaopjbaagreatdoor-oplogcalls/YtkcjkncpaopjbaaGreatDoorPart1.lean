/-
  Parts of the proof, one behind the other; what each proves stands at its head.
-/

namespace Go.Proofs.YtkcjkncpaopjbaaGreatDoor.M
theorem ipow_le (a:Nat) {b c:Nat}(ha:0<a) (h:b≤c):(a:Int) ^ b≤(a:Int) ^ c:=by
 have:=Nat.pow_le_pow_right ha h
 rw [←Int.natCast_pow,←Int.natCast_pow]
 omega
theorem pow2_le {b c:Nat}(h:b≤c):(2:Int) ^ b≤2 ^ c:=ipow_le 2 (by decide) h
theorem pow256_le {b c:Nat}(h:b≤c):(256:Int) ^ b≤256 ^ c:=ipow_le 256 (by decide) h
def bd (c:Nat):Int:=128 ^ c
def sz (n:Int):Nat :=
 if n<128 then 1 else if n<16384 then 2 else if n<2097152 then 3 else if n<268435456 then 4 else if n<34359738368 then 5 else if n<4398046511104 then 6 else 7
theorem sz_pos (n:Int):1≤sz n∧sz n≤7:=by unfold sz;constructor<;>(repeat' split)<;>omega
theorem sz_of {n:Int}{k:Nat}(h1:1≤k) (h7:k≤7) (hl:k=1∨bd (k - 1)≤n) (hu:k=7∨n<bd k):sz n=k:=by
 have:k=1∨k=2∨k=3∨k=4∨k=5∨k=6∨k=7:=by omega
 unfold bd at hl hu
 rcases this with rfl | rfl | rfl | rfl | rfl | rfl | rfl<;>simp at hl hu<;>unfold sz<;>(repeat' split)<;>omega
def be:Nat→Int→List Int
 | 0,_=>[]
 | k+1,n=>(n / 256 ^ k) % 256::be k n
theorem qnv (k:Nat) (n:Int):(be k n).length=k:=by
 induction k with
 | zero=>rfl
 | succ k ih=>simp [be,ih]
theorem jcc (k:Nat) (n:Int):∀ x ∈ be k n,0≤x∧x<256:=by
 induction k with
 | zero=>intro x hx;cases hx
 | succ k ih =>
  intro x hx
  simp only [be,List.mem_cons] at hx
  rcases hx with rfl | hx
  ·exact ⟨Int.emod_nonneg _ (by decide),Int.emod_lt_of_pos _ (by decide)⟩
  ·exact ih x hx
def mask (k:Nat):Int:=256 - 2 ^ (9 - k)
def encK (k:Nat) (n:Int):List Int :=
 match be k n with
 | []=>[]
 | x::r=>(x+mask k)::r
def enc (n:Int):List Int:=encK (sz n) n
theorem qmy {j:Nat}{n:Int}(h:sz n=j) (hn:n<562949953421312):n<128 ^ j:=by
 subst h
 unfold sz
 (repeat' split)<;>simp<;>omega
theorem be_head {j:Nat}{n x:Int}{r:List Int}(h0:0≤n) (hn:n<562949953421312) (hj:sz n=j) (hx:be j n=x::r):0≤x∧x<2 ^ (8 - j):=by
 have h1:=sz_pos n
 have h2:=qmy hj hn
 rw [hj] at h1
 have:j=1∨j=2∨j=3∨j=4∨j=5∨j=6∨j=7:=by omega
 rcases this with rfl | rfl | rfl | rfl | rfl | rfl | rfl<;>simp [be] at hx h2 ⊢<;>omega
theorem enc_byte (n:Int) (h0:0≤n) (hn:n<562949953421312):∀ x ∈ enc n,0≤x∧x<256:=by
 unfold enc encK
 have h1:=sz_pos n
 have hb:=jcc (sz n) n
 obtain ⟨j,hj⟩:∃ j,sz n=j:=⟨_,rfl⟩
 rw [hj] at hb h1 ⊢
 split
 ·intro x hx;cases hx
 ·rename_i y r hx
  have hh:=be_head h0 hn hj hx
  rw [hx] at hb
  intro x hm
  simp only [List.mem_cons] at hm
  rcases hm with rfl | hm
  ·have:j=1∨j=2∨j=3∨j=4∨j=5∨j=6∨j=7:=by omega
   unfold mask
   rcases this with rfl | rfl | rfl | rfl | rfl | rfl | rfl<;>simp at hh ⊢<;>omega
  ·exact hb x (by simp [hm])
def right (n:Int):Bool:=decide (0≤n∧n<562949953421312)
theorem qpq (k:Nat) (n:Int):(encK k n).length=k:=by
 unfold encK
 have:=qnv k n
 split
 ·rename_i h;rw [h] at this;exact this
 ·rename_i h;rw [h] at this;simpa using this
theorem enc_length (n:Int):(enc n).length=sz n:=qpq _ _
def cnt (b:Int):Nat :=
 if b<128 then 1 else if b<192 then 2 else if b<224 then 3 else if b<240 then 4 else if b<248 then 5 else if b<252 then 6 else if b<254 then 7 else if b<255 then 8 else 9
theorem cnt_pos (b:Int):1≤cnt b∧cnt b≤9:=by unfold cnt;constructor<;>(repeat' split)<;>omega
def fold (n:Int) (l:List Int):Int:=l.foldl (fun n x=>n*256+x) n
def first:List Int→Option (Int × Nat)
 | []=>none
 | b::r=>if 7<cnt b∨r.length+1<cnt b then none else
   if sz (fold (b % 2 ^ (8 - cnt b)) (r.take (cnt b - 1)))=cnt b then some (fold (b % 2 ^ (8 - cnt b)) (r.take (cnt b - 1)),cnt b) else none
def fn (xs:List Int):Int:=match first xs with | some p=>p.1 | none=>0
def fc (xs:List Int):Nat:=match first xs with | some p=>p.2 | none=>0
def fo (xs:List Int):Bool:=(first xs).isSome
theorem fo_spec {xs:List Int}(h:fo xs=true):1≤fc xs∧fc xs≤xs.length∧sz (fn xs)=fc xs:=by
 unfold fo at h
 cases xs with
 | nil=>simp [first] at h
 | cons b r =>
  by_cases h1:7<cnt b∨r.length+1<cnt b
  ·simp [first,h1] at h
  ·by_cases h2:sz (fold (b % 2 ^ (8 - cnt b)) (r.take (cnt b - 1)))=cnt b
   ·have e:first (b::r)=some (fold (b % 2 ^ (8 - cnt b)) (r.take (cnt b - 1)),cnt b):=by rw [first,if_neg h1,if_pos h2]
    simp only [fn,fc,e]
    have:=cnt_pos b
    exact ⟨by omega,by simp;omega,h2⟩
   ·simp [first,h1,h2] at h
def numOk (most:Int) (xs:List Int):Bool:=fo xs && decide (fn xs≤most)
def numV (most:Int) (xs:List Int):Int:=if numOk most xs then fn xs else 0
def numS (most:Int) (xs:List Int):List Int:=if numOk most xs then xs.drop (fc xs) else []
def numL (most:Int) (xs:List Int) (lost:Bool):Bool:=if numOk most xs then lost else true
def takeOk (n:Int) (xs:List Int):Bool:=decide (0≤n∧n≤xs.length)
def takeV (n:Int) (xs:List Int):List Int:=if takeOk n xs then xs.take n.toNat else []
def takeS (n:Int) (xs:List Int):List Int:=if takeOk n xs then xs.drop n.toNat else []
def takeL (n:Int) (xs:List Int) (lost:Bool):Bool:=if takeOk n xs then lost else true
def str (xs:List Int):ByteArray:=xs.foldl (fun r n=>r.push (UInt8.ofNat n.toNat)) ByteArray.empty
theorem fold_bound (m:Int) (l:List Int) (hl:∀ x ∈ l,0≤x∧x<256):∀ n:Int,0≤n→n<m→0≤fold n l∧fold n l<m*256 ^ l.length:=by
 induction l generalizing m with
 | nil=>intro n h0 h1;simpa [fold] using ⟨h0,h1⟩
 | cons x r ih =>
  intro n h0 h1
  have hx:=hl x (by simp)
  have:=ih (m*256) (fun y hy=>hl y (by simp [hy])) (n*256+x) (by omega) (by omega)
  simp only [fold,List.foldl_cons,List.length_cons] at this ⊢
  rw [Int.pow_succ,Int.mul_comm (256 ^ r.length) 256,←Int.mul_assoc]
  exact this
theorem fold_snoc (n:Int) (l:List Int) (x:Int):fold n (l++[x])=fold n l*256+x:=by simp [fold]
end Go.Proofs.YtkcjkncpaopjbaaGreatDoor.M

namespace Go.Proofs.YtkcjkncpaopjbaaGreatDoor.M
theorem jbs (k:Nat) (n:Int):fold (n / 256 ^ k) (be k n)=n:=by
 induction k with
 | zero=>simp [fold,be]
 | succ k ih =>
  have hP:(0:Int)≤256 ^ k:=Int.le_of_lt (Int.pow_pos (by decide))
  have e:n / 256 ^ (k+1)*256+n / 256 ^ k % 256=n / 256 ^ k:=by
   rw [Int.pow_succ,←Int.ediv_ediv_of_nonneg hP]
   omega
  simp only [be,fold,List.foldl_cons]
  rw [e]
  exact ih
theorem seven {k:Nat}(h:1≤k∧k≤7):k=1∨k=2∨k=3∨k=4∨k=5∨k=6∨k=7:=by omega
theorem qzn {k:Nat}{x:Int}(hk:1≤k∧k≤7) (h0:0≤x) (h1:x<2 ^ (8 - k)):cnt (x+mask k)=k∧(x+mask k) % 2 ^ (8 - k)=x:=by
 rcases seven hk with rfl | rfl | rfl | rfl | rfl | rfl | rfl<;>simp [mask] at h1 ⊢<;>refine ⟨?_,by omega⟩<;>unfold cnt<;>(repeat' split)<;>omega
theorem first_enc {n:Int}(h0:0≤n) (hn:n<562949953421312) (r:List Int):first (enc n++r)=some (n,sz n):=by
 have hk:=sz_pos n
 obtain ⟨k,e⟩:∃ k,sz n=k+1:=⟨sz n - 1,by omega⟩
 have hx:be (sz n) n=(n / 256 ^ k % 256)::be k n:=by rw [e];rfl
 have hh:=be_head h0 hn rfl hx
 have hc:=qzn hk hh.1 hh.2
 have e1:enc n=(n / 256 ^ k % 256+mask (sz n))::be k n:=by unfold enc encK;rw [hx]
 have hl:=qnv k n
 have hq:n / 256 ^ k % 256=n / 256 ^ k:=by
  have hp:=qmy (n:=n) rfl hn
  refine Int.emod_eq_of_lt (Int.ediv_nonneg h0 (Int.le_of_lt (Int.pow_pos (by decide)))) ?_
  refine Int.ediv_lt_of_lt_mul (Int.pow_pos (by decide)) ?_
  have h2:=ipow_le 128 (b:=k+1) (c:=k+1) (by decide) (Nat.le_refl _)
  have h3:(128:Int) ^ (k+1)≤256 ^ (k+1):=by
   have:=Nat.pow_le_pow_left (show 128≤256 by decide) (k+1)
   have e1:((128 ^ (k+1):Nat):Int)=(128:Int) ^ (k+1):=by rw [Int.natCast_pow];rfl
   have e2:((256 ^ (k+1):Nat):Int)=(256:Int) ^ (k+1):=by rw [Int.natCast_pow];rfl
   omega
  rw [e] at hp
  rw [Int.pow_succ] at h3
  rw [Int.mul_comm]
  omega
 rw [e1,List.cons_append,first,hc.1,hc.2,if_neg (by simp [hl];omega)]
 have e2:(be k n++r).take (sz n - 1)=be k n:=by
  rw [List.take_append_of_le_length (by omega),List.take_of_length_le (by omega)]
 have e3:fold (n / 256 ^ k % 256) (be k n)=n:=by rw [hq];exact jbs k n
 rw [e2,e3,if_pos rfl]
theorem qza (t:List Int) (ht:∀ x ∈ t,0≤x∧x<256):∀ n:Int,fold n t / 256 ^ t.length=n∧be t.length (fold n t)=t:=by
 induction t with
 | nil=>intro n;simp [fold,be]
 | cons y t ih =>
  intro n
  have hy:=ht y (by simp)
  have:=ih (fun x hx=>ht x (by simp [hx])) (n*256+y)
  have hP:(0:Int)≤256 ^ t.length:=Int.le_of_lt (Int.pow_pos (by decide))
  have e:fold n (y::t)=fold (n*256+y) t:=rfl
  rw [e]
  simp only [List.length_cons,be]
  rw [this.1,this.2]
  refine ⟨?_,by congr 1;omega⟩
  rw [Int.pow_succ,←Int.ediv_ediv_of_nonneg hP,this.1]
  omega
theorem qpf {b:Int}(h0:0≤b) (h1:b<256) (hk:cnt b≤7):b % 2 ^ (8 - cnt b)+mask (cnt b)=b∧b % 2 ^ (8 - cnt b)<2 ^ (8 - cnt b):=by
 have hp:=cnt_pos b
 obtain ⟨k,e⟩:∃ k,cnt b=k:=⟨_,rfl⟩
 have e':=e
 unfold cnt at e'
 rw [e] at hk hp ⊢
 refine ⟨?_,Int.emod_lt_of_pos _ (Int.pow_pos (by decide))⟩
 rcases seven ⟨hp.1,hk⟩ with rfl | rfl | rfl | rfl | rfl | rfl | rfl<;>simp [mask]<;>(repeat' split at e')<;>omega
theorem enc_first_eq {xs:List Int}{n:Int}{k:Nat}(hx:∀ x ∈ xs,0≤x∧x<256) (h:first xs=some (n,k)) :
  0≤n∧n<562949953421312∧sz n=k∧enc n=xs.take k∧k≤xs.length:=by
 cases xs with
 | nil=>simp [first] at h
 | cons b r =>
  by_cases h1:7<cnt b∨r.length+1<cnt b
  ·simp [first,h1] at h
  ·by_cases h2:sz (fold (b % 2 ^ (8 - cnt b)) (r.take (cnt b - 1)))=cnt b
   ·rw [first,if_neg h1,if_pos h2] at h
    simp only [Option.some.injEq,Prod.mk.injEq] at h
    obtain ⟨rfl,rfl⟩:=h
    have hp:=cnt_pos b
    have hb:=hx b (by simp)
    have hm:=qpf hb.1 hb.2 (by omega)
    have hr:∀ x ∈ r.take (cnt b - 1),0≤x∧x<256:=fun x hx'=>hx x (by simp [List.mem_of_mem_take hx'])
    have hl:(r.take (cnt b - 1)).length=cnt b - 1:=by rw [List.length_take];omega
    have hf:=qza (r.take (cnt b - 1)) hr (b % 2 ^ (8 - cnt b))
    have h0:0≤b % 2 ^ (8 - cnt b):=Int.emod_nonneg _ (Int.ne_of_gt (Int.pow_pos (by decide)))
    have hbd:=fold_bound (2 ^ (8 - cnt b)) (r.take (cnt b - 1)) hr (b % 2 ^ (8 - cnt b)) h0 hm.2
    rw [hl] at hf hbd
    have hlt:(2:Int) ^ (8 - cnt b)*256 ^ (cnt b - 1)≤562949953421312:=by
     rcases seven (show 1≤cnt b∧cnt b≤7 by omega) with e | e | e | e | e | e | e<;>rw [e]<;>decide
    refine ⟨hbd.1,by omega,h2,?_,by simp;omega⟩
    unfold enc encK
    rw [h2]
    obtain ⟨k,e⟩:∃ k,cnt b=k+1:=⟨cnt b - 1,by omega⟩
    have hlt8:(2:Int) ^ (8 - cnt b)≤2 ^ 7:=pow2_le (by omega)
    have e3:be (cnt b) (fold (b % 2 ^ (8 - cnt b)) (r.take (cnt b - 1)))=(b % 2 ^ (8 - cnt b))::r.take (cnt b - 1):=by
     have e4:cnt b - 1=k:=by omega
     rw [e4] at hf ⊢
     rw [e] at hf ⊢
     simp only [be]
     rw [hf.1,hf.2,Int.emod_eq_of_lt (by rw [←e];exact h0) (by rw [←e];have:=hm.2;omega)]
    rw [e3]
    show (b % 2 ^ (8 - cnt b)+mask (cnt b))::r.take (cnt b - 1)=_
    rw [hm.1,e]
    simp
   ·simp [first,h1,h2] at h
def ofStr (s:ByteArray):List Int:=s.data.toList.map (fun b=>(b.toNat:Int))
theorem ofStr_length (s:ByteArray):(ofStr s).length=s.size:=by
 unfold ofStr;rw [List.length_map,Array.length_toList];rfl
theorem ofStr_byte (s:ByteArray):∀ x ∈ ofStr s,0≤x∧x<256:=by
 intro x hx
 unfold ofStr at hx
 obtain ⟨b,_,rfl⟩:=List.mem_map.1 hx
 have:=b.toNat_lt
 omega
theorem qsn (l:List UInt8):∀ s:ByteArray,(l.map (fun b=>(b.toNat:Int))).foldl (fun r n=>r.push (UInt8.ofNat n.toNat)) s=⟨s.data++l.toArray⟩:=by
 induction l with
 | nil=>intro s;simp
 | cons b l ih =>
  intro s
  simp only [List.map_cons,List.foldl_cons]
  rw [ih]
  simp [ByteArray.push]
theorem str_ofStr (s:ByteArray):str (ofStr s)=s:=by
 unfold str ofStr
 rw [qsn]
 cases s
 simp [ByteArray.empty,ByteArray.emptyWithCapacity]
 rfl
def encText (s:ByteArray):List Int:=enc s.size++ofStr s
end Go.Proofs.YtkcjkncpaopjbaaGreatDoor.M

namespace Go.Proofs.YtkcjkncpaopjbaaGreatDoor.K
def lt:List Int→List Int→Bool
 | _,[]=>false
 | [],_::_=>true
 | a::x,b::y=>decide (a<b) || (decide (a=b) && lt x y)
def lst (k:List Int):Int:=k.getD (k.length - 1) 0
def right (k:List Int):Bool:=decide (1≤k.length∧k.length≤32∧lst k≠0)
def Byt (k:List Int):Prop:=∀ x ∈ k,0≤x∧x<256
def fine (a b:List Int):Bool:=(decide (a=[]) || right a) && (decide (b=[]) || right b) && (decide (b=[]) || lt a b)
def step (x y:Int):Int:=if y=256 then min ((y - x) / 2) 8 else (y - x) / 2
def btw:Nat→List Int→List Int→Option (List Int)
 | 0,_,_=>none
 | n+1,lo,hi =>
  if lo.headD 0+1<hi.headD 256 then some [lo.headD 0+step (lo.headD 0) (hi.headD 256)]
  else if hi.headD 256=lo.headD 0+1 then (btw n lo.tail []).map (lo.headD 0::·)
  else (btw n lo.tail hi.tail).map (lo.headD 0::·)
def key (a b:List Int):Option (List Int):=if fine a b=true then btw 32 a b else none
theorem Byt.nil:Byt []:=fun x hx=>by cases hx
end Go.Proofs.YtkcjkncpaopjbaaGreatDoor.K
