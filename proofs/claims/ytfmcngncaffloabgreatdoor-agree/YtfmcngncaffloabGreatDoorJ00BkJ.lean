namespace Go.Proofs.YtfmcngncaffloabGreatDoor
theorem ac:type_of% @Nat.le_refl:=by exact @Nat.le_refl
theorem af:type_of% @List.getElem?_eq_some_iff:=by exact @List.getElem?_eq_some_iff
theorem ag:type_of% @List.getElem?_eq_getElem:=by exact @List.getElem?_eq_getElem
theorem ah:type_of% @List.length_append:=by exact @List.length_append
theorem ai:type_of% @List.getD_eq_getElem?_getD:=by exact @List.getD_eq_getElem?_getD
theorem aj:type_of% @Int.toNat_natCast:=by exact @Int.toNat_natCast
theorem ak:type_of% @Bool.and_eq_true:=by exact @Bool.and_eq_true
theorem al:type_of% @List.length_take:=by exact @List.length_take
theorem am:type_of% @Array.getElem?_eq_some_iff:=by exact @Array.getElem?_eq_some_iff
theorem an:type_of% @List.mem_of_getElem?:=by exact @List.mem_of_getElem?
theorem ao:type_of% @List.mem_append:=by exact @List.mem_append
theorem ap:type_of% @if_neg:=by exact @if_neg
theorem aq:type_of% @decide_eq_true_eq:=by exact @decide_eq_true_eq
theorem ar:type_of% @List.mem_cons:=by exact @List.mem_cons
theorem au:type_of% @List.append_assoc:=by exact @List.append_assoc
theorem av:type_of% @List.length_map:=by exact @List.length_map
theorem aw:type_of% @List.eq_nil_of_length_eq_zero:=by exact @List.eq_nil_of_length_eq_zero
theorem az:type_of% @Nat.zero_le:=by exact @Nat.zero_le
theorem aA:type_of% @if_pos:=by exact @if_pos
theorem aB:type_of% @List.mem_singleton:=by exact @List.mem_singleton
theorem aC:type_of% @List.take_succ_eq_append_getElem:=by exact @List.take_succ_eq_append_getElem
theorem aD:type_of% @congrArg:=by exact @congrArg
theorem aE:type_of% @List.length_set:=by exact @List.length_set
theorem aF:type_of% @List.getElem?_eq_none:=by exact @List.getElem?_eq_none
theorem aG:type_of% @List.mem_map:=by exact @List.mem_map
theorem aH:type_of% @List.take_append_drop:=by exact @List.take_append_drop
theorem aI:type_of% @List.mem_iff_getElem:=by exact @List.mem_iff_getElem
theorem aJ:type_of% @List.length_cons:=by exact @List.length_cons
theorem aK:type_of% @List.getElem?_set_ne:=by exact @List.getElem?_set_ne
theorem aL:type_of% @List.getElem?_take_of_lt:=by exact @List.getElem?_take_of_lt
theorem aM:type_of% @List.take_of_length_le:=by exact @List.take_of_length_le
theorem aN:type_of% @Int.eq_ofNat_of_zero_le:=by exact @Int.eq_ofNat_of_zero_le
theorem aO:type_of% @List.map_append:=by exact @List.map_append
theorem aP:type_of% @List.length_drop:=by exact @List.length_drop
theorem aQ:type_of% @Nat.le_trans:=by exact @Nat.le_trans
theorem aR:type_of% @List.cons_append:=by exact @List.cons_append
theorem aS:type_of% @of_decide_eq_true:=by exact @of_decide_eq_true
theorem aT:type_of% @decide_eq_true:=by exact @decide_eq_true
theorem aU:type_of% @List.getElem_mem:=by exact @List.getElem_mem
theorem aV:type_of% @Nat.zero_add:=by exact @Nat.zero_add
end Go.Proofs.YtfmcngncaffloabGreatDoor
namespace Go.Proofs.YtfmcngncaffloabGreatDoor.Wv
structure Dt where
 o:Int
 s:Int
 i:Int
structure Ef where
 op:Int
 ob:Int
 va:Int
 ref:Dt
 dots:List Dt
structure Bt where
 o:Int
 s:Int
 t:Int
 clock:List Int
 effs:List Ef
def step(c:Nat):Nat:=if c % 2=1 then(c / 2)^^^ 3988292384 else c / 2
def steps:Nat->Nat->Nat
 | 0,c=>c
 | k+1,c=>step (steps k c)
def reg:List UInt8->Nat->Nat
 | [],c=>c
 | b::l,c=>reg l (steps 8 (c ^^^ b.toNat))
def sum(l:List UInt8):Nat:=4294967295 - reg l 4294967295
theorem step_lt(c:Nat)(h:c<4294967296):step c<4294967296:=by
 unfold step;split
 ·exact Nat.xor_lt_two_pow (n:=32) (by omega) (by omega)
 ·omega
theorem steps_lt(k c:Nat)(h:c<4294967296):steps k c<4294967296:=by
 induction k with
 | zero=>exact h
 | succ k ih=>exact step_lt _ ih
theorem byte_lt(b:UInt8):b.toNat<256:=b.toNat_lt
theorem xor_byte_lt(c:Nat)(b:UInt8)(h:c<4294967296):c ^^^ b.toNat<4294967296:=
 Nat.xor_lt_two_pow (n:=32) h (by have:=byte_lt b;omega)
theorem reg_lt(l:List UInt8):∀c,c<4294967296->reg l c<4294967296:=by
 induction l with
 | nil=>intro c h;exact h
 | cons b l ih=>intro c h;exact ih _ (steps_lt _ _ (xor_byte_lt _ _ h))
theorem zdw(l m:List UInt8):∀c,reg (l++m) c=reg m (reg l c):=by
 induction l with
 | nil=>intro c;rfl
 | cons b l ih=>intro c;exact ih _
theorem reg_snoc(l:List UInt8)(b:UInt8)(c:Nat):reg (l++ [b]) c=steps 8 (reg l c ^^^ b.toNat):=by
 rw [zdw];rfl
def tab:List Int:= [0,0,0,0,0,0,0, -1000,1000,0,0,0,1,0,255,0,0,0,1,0,0,0,1,150,2,0,255,0,0,150,3,0,255,1,0,0,3,0,0,2,0,0]
def rKind(op:Int):Int:=if op=1 then 0 else if op=2 then 1 else if op=3 then 1 else if op=4 then 2 else 3
def rLeast(op:Int):Int:=if op=1 then -1000 else 0
def rGreat(op:Int):Int:=if op=1 then 1000 else if op=3 then 0 else if op=6 then 0 else 255
def rRef(op:Int):Int:=if op=5 then 1 else if op=6 then 2 else 0
def rLeastD(op:Int):Int:=if op=3 then 1 else 0
def rMostD(op:Int):Int:=if op=3 then 150 else if op=4 then 150 else 0
def be1(n:Int):List UInt8:= [UInt8.ofNat (n % 256).toNat]
def be2(n:Int):List UInt8:= [UInt8.ofNat (n / 256 % 256).toNat,UInt8.ofNat (n % 256).toNat]
def be4(n:Int):List UInt8:= [UInt8.ofNat (n / 16777216 % 256).toNat,UInt8.ofNat (n / 65536 % 256).toNat,UInt8.ofNat (n / 256 % 256).toNat,UInt8.ofNat (n % 256).toNat]
theorem ofNat_toNat(n:Int):(((UInt8.ofNat (n % 256).toNat).toNat:Nat):Int)=n % 256:=by
 have h:(n % 256).toNat<256:=by omega
 rw [UInt8.toNat_ofNat_of_lt' h];omega
def inD(b:Bt)(d:Dt):Bool:=decide (0<=d.o) && decide (d.o<b.clock.length) && decide (1<=d.s) && decide (0<=d.i) && decide (d.i<5)
def cov(b:Bt)(d:Dt)(i:Int):Bool:=
 inD b d && (decide (d.s<=b.clock.getD d.o.toNat 0) || ((d.o==b.o) && (d.s==b.s) && decide (d.i<i)))
def noneD(d:Dt):Bool:=(d.o==0) && (d.s==0) && (d.i==0)
def lessD(a b:Dt):Bool:=if a.o=b.o then decide (a.s<b.s) || ((a.s==b.s) && decide (a.i<b.i)) else decide (a.o<b.o)
def dOk(b:Bt)(i:Int)(ds:List Dt)(k:Nat):Bool:=((k==0) || lessD (ds.getD (k - 1) ⟨0,0,0⟩) (ds.getD k ⟨0,0,0⟩)) && cov b (ds.getD k ⟨0,0,0⟩) i
def dotsTo(b:Bt)(i:Int)(ds:List Dt):Nat->Bool
 | 0=>true
 | k+1=>dotsTo b i ds k && dOk b i ds k
def dotsOk(b:Bt)(i:Int)(ds:List Dt):Bool:=dotsTo b i ds ds.length
def cOk(b:Bt)(k:Nat):Bool:=decide (0<=b.clock.getD k 0) && decide (b.clock.getD k 0<=30) && (!((k:Int)==b.o) || (b.clock.getD k 0==b.s - 1))
def clkTo(b:Bt):Nat->Bool
 | 0=>true
 | k+1=>clkTo b k && cOk b k
def clkOk(b:Bt):Bool:=clkTo b b.clock.length
def refOk(b:Bt)(i:Int)(d:Dt)(use:Int):Bool:=if noneD d then !(use==2) else !(use==0) && cov b d i
def isOp(op:Int):Bool:=decide (1<=op) && decide (op<=6)
def effOk(b:Bt)(i:Int)(e:Ef):Bool:=
 isOp e.op && (decide (0<=e.ob) && decide (e.ob<=7) && (e.ob % 4==rKind e.op)) && (decide (rLeast e.op<=e.va) && decide (e.va<=rGreat e.op)) &&
 refOk b i e.ref (rRef e.op) && (decide (rLeastD e.op<=e.dots.length) && decide ((e.dots.length:Int)<=rMostD e.op)) && dotsOk b i e.dots
def effsTo(b:Bt):Nat->Bool
 | 0=>true
 | k+1=>effsTo b k && effOk b k (b.effs.getD k ⟨0,0,0,⟨0,0,0⟩, []⟩)
def headOk(b:Bt):Bool:=
 (decide (2<=b.clock.length) && decide (b.clock.length<=4)) && (decide (0<=b.o) && decide (b.o<=(b.clock.length:Int) - 1)) && (decide (1<=b.s) && decide (b.s<=30)) &&
 (decide (1<=b.t) && decide (b.t<=200)) && (decide (1<=b.effs.length) && decide (b.effs.length<=5)) && clkOk b
def isB(b:Bt):Bool:=headOk b && effsTo b b.effs.length
theorem zk7(b:Bt):∀n k,k<n->clkTo b n=true->cOk b k=true
 | n+1,k,hk,h=>by
  rw [clkTo,ak] at h;rcases Nat.lt_succ_iff_lt_or_eq.1 hk with hk | rfl
  ·exact zk7 b n k hk h.1
  ·exact h.2
theorem head_clock(b:Bt)(h:headOk b=true):b.clock.length<=4∧0<=b.o∧b.o<b.clock.length∧1<=b.s∧b.clock.getD b.o.toNat 0=b.s - 1:=by
 simp only [headOk,ak,aq] at h;obtain⟨⟨⟨⟨⟨h1,h2⟩,h3⟩,_⟩,_⟩,h4⟩:=h;have hc:=zk7 b b.clock.length b.o.toNat (by omega) h4;simp only [cOk,ak,Bool.or_eq_true,Bool.not_eq_true',beq_eq_false_iff_ne,beq_iff_eq] at hc;refine⟨h1.2,h2.1,by omega,h3.1, ?_⟩;rcases hc.2 with hx | hx
 ·exact absurd (by omega) hx
 ·exact hx
theorem clkTo_no(b:Bt):∀n k,k<n->cOk b k=false->clkTo b n=false
 | n+1,k,hk,h=>by
  rw [clkTo];rcases Nat.lt_succ_iff_lt_or_eq.1 hk with hk | rfl
  ·rw [clkTo_no b n k hk h];rfl
  ·rw [h];simp
theorem dotsTo_no(b:Bt)(i:Int)(ds:List Dt):∀n k,k<n->dOk b i ds k=false->dotsTo b i ds n=false
 | n+1,k,hk,h=>by
  rw [dotsTo];rcases Nat.lt_succ_iff_lt_or_eq.1 hk with hk | rfl
  ·rw [dotsTo_no b i ds n k hk h];rfl
  ·rw [h];simp
theorem effsTo_no(b:Bt):∀n k:Nat,k<n->effOk b k (b.effs.getD k ⟨0,0,0,⟨0,0,0⟩, []⟩)=false->effsTo b n=false
 | n+1,k,hk,h=>by
  rw [effsTo];rcases Nat.lt_succ_iff_lt_or_eq.1 hk with hk | rfl
  ·rw [effsTo_no b n k hk h];rfl
  ·rw [h];simp
def hd4(b:Bt):List UInt8:=be1 b.o++be1 b.s++be1 b.t++be1 b.clock.length
def headB(b:Bt):List UInt8:=hd4 b++b.clock.flatMap be1++be1 b.effs.length
def dotB(d:Dt):List UInt8:=be1 d.o++be1 d.s++be1 d.i
def effB(e:Ef):List UInt8:=
 be1 e.op++be1 e.ob++be2 e.va++(if rRef e.op=0 then [] else dotB e.ref)++(if 0<rMostD e.op then be1 e.dots.length++e.dots.flatMap dotB else [])
def contentB(b:Bt):List UInt8:=headB b++b.effs.flatMap effB
def bodyB(b:Bt):List UInt8:=be2 ((contentB b).length+6)++contentB b
def frameB(b:Bt):List UInt8:=bodyB b++be4 (sum (bodyB b))
theorem be1_len(n:Int):(be1 n).length=1:=rfl
theorem flat1_len(zs:List Int):(zs.flatMap be1).length=zs.length:=by
 induction zs with
 | nil=>rfl
 | cons z zs ih=>simp [List.flatMap_cons,be1_len,ih];omega
theorem zqo(d:Dt):(dotB d).length=3:=rfl
theorem dots_len(ds:List Dt):(ds.flatMap dotB).length=3*ds.length:=by
 induction ds with
 | nil=>rfl
 | cons z zs ih=>simp [List.flatMap_cons,zqo,ih];omega
theorem take_flat{α:Type}(f:α->List UInt8)(l:List α)(k:Nat)(h:k<l.length):(l.take (k+1)).flatMap f=(l.take k).flatMap f++f l[k]:=by
 rw [aC h,List.flatMap_append];simp
theorem effB_len(e:Ef)(h:e.dots.length<=150):(effB e).length<=500:=by
 have:=dots_len e.dots;unfold effB;simp only [ah,be1_len];have h2:(be2 e.va).length=2:=rfl;split<;>split<;>simp only [ah,List.length_nil,zqo,be1_len,dots_len]<;>omega
abbrev St:=Option Nat
def one(s:List UInt8):St->Int
 | some k=>if k<s.length then((s.getD k 0).toNat:Int) else 0
 | none=>0
def nxt(s:List UInt8):St->St
 | some k=>if k<s.length then some (k+1) else none
 | none=>none
def nxt2(s:List UInt8)(q:St):St:=nxt s (nxt s q)
def nxt3(s:List UInt8)(q:St):St:=nxt s (nxt s (nxt s q))
def dotR(s:List UInt8)(q:St):Dt:=⟨one s q,one s (nxt s q),one s (nxt2 s q)⟩
def two(p:Bool)(s:List UInt8)(q:St):Int:=if !p && (nxt2 s q).isNone then 0 else 256*one s q+one s (nxt s q)
def v16(n:Int):Int:=if 32768<=n then n - 65536 else n
def run{α:Type}(F:St->α×St):Nat->St->List α×St
 | 0,q=>([],q)
 | n+1,q=>((run F n q).1++ [(F (run F n q).2).1],(F (run F n q).2).2)
def dotF(s:List UInt8)(q:St):Dt×St:=(dotR s q,nxt3 s q)
def oneF(s:List UInt8)(q:St):Int×St:=(one s q,nxt s q)
def eff5(p:Bool)(s:List UInt8)(q:St):St:=if p && !isOp (one s q) then none else nxt2 s (nxt2 s q)
def eff6(p:Bool)(s:List UInt8)(q:St):St:=if rRef (one s q)=0 then eff5 p s q else nxt3 s (eff5 p s q)
def effD(p:Bool)(s:List UInt8)(q:St):List Dt×St:=if 0<rMostD (one s q) then run (dotF s) (one s (eff6 p s q)).toNat (nxt s (eff6 p s q)) else([],eff6 p s q)
def effF(p:Bool)(s:List UInt8)(q:St):Ef×St:=
 (⟨one s q,one s (nxt s q),v16 (two p s (nxt2 s q)),if rRef (one s q)=0 then⟨0,0,0⟩ else dotR s (eff5 p s q),(effD p s q).1⟩,(effD p s q).2)
def batC(s:List UInt8)(q:St):List Int×St:=run (oneF s) (one s (nxt3 s q)).toNat (nxt s (nxt3 s q))
def batE(p:Bool)(s:List UInt8)(q:St):List Ef×St:=run (effF p s) (one s (batC s q).2).toNat (nxt s (batC s q).2)
def batF(p:Bool)(s:List UInt8)(q:St):Bt×St:=(⟨one s q,one s (nxt s q),one s (nxt2 s q),(batC s q).1,(batE p s q).1⟩,(batE p s q).2)
theorem run_len{α:Type}(F:St->α×St)(n:Nat)(q:St):(run F n q).1.length=n:=by
 induction n with
 | zero=>rfl
 | succ n ih=>simp [run,ih]
theorem one_lt(s:List UInt8)(q:St):0<=one s q∧one s q<=255:=by
 cases q with
 | none=>simp [one]
 | some k=>
  simp only [one];split
  ·have:=byte_lt (s.getD k 0);omega
  ·omega
theorem two_lt(p:Bool)(s:List UInt8)(q:St):0<=two p s q∧two p s q<=65535:=by
 have h1:=one_lt s q;have h2:=one_lt s (nxt s q);unfold two;split<;>omega
theorem zg2(b:Bt):∀(n k:Nat),k<n->effsTo b n=true->effOk b k (b.effs.getD k ⟨0,0,0,⟨0,0,0⟩, []⟩)=true
 | n+1,k,hk,h=>by
  rw [effsTo,ak] at h;rcases Nat.lt_succ_iff_lt_or_eq.1 hk with hk | rfl
  ·exact zg2 b n k hk h.1
  ·exact h.2
def decC(p:Bool)(c:List UInt8):Option Bt:=if (batF p c (some 2)).2=some c.length∧isB (batF p c (some 2)).1=true then some (batF p c (some 2)).1 else none
def tail4(s:List UInt8):List UInt8:=s.drop (s.length - 4)
def body(s:List UInt8):List UInt8:=s.take (s.length - 4)
def num2(s:List UInt8):Int:=256*(s.getD 0 0).toNat+(s.getD 1 0).toNat
def dec(s:List UInt8):Option Bt:=if 4<=s.length∧num2 s=s.length∧tail4 s=be4 (sum (body s)) then decC true (body s) else none
theorem zym(a b:Nat)(ha:a<4294967296)(hb:b<4294967296)(h:step a=step b):a=b:=by
 have key:∀x y:Nat,x<2147483648->y<2147483648->x ^^^ 3988292384=y->False:=by
  intro x y hx hy e
  have h1:(x ^^^ 3988292384).testBit 31=true:=by
   rw [Nat.testBit_xor,Nat.testBit_lt_two_pow (show x<2 ^ 31 from hx)];decide
  rw [e,Nat.testBit_lt_two_pow (show y<2 ^ 31 from hy)] at h1;cases h1
 unfold step at h;split at h<;>split at h
 ·have h2:a / 2=b / 2:=by
   have:=aD (· ^^^ 3988292384) h;simp only [Nat.xor_assoc,Nat.xor_self,Nat.xor_zero] at this;exact this
  omega
 ·exact(key _ _ (by omega) (by omega) h).elim
 ·exact(key _ _ (by omega) (by omega) h.symm).elim
 ·omega
theorem zei(k a b:Nat)(ha:a<4294967296)(hb:b<4294967296)(h:steps k a=steps k b):a=b:=by
 induction k with
 | zero=>exact h
 | succ k ih=>exact ih (zym _ _ (steps_lt k a ha) (steps_lt k b hb) h)
theorem zgi(a b c:Nat)(h:a ^^^ c=b ^^^ c):a=b:=by
 have:=aD (· ^^^ c) h;simpa [Nat.xor_assoc] using this
theorem zm6(a b c:Nat)(h:c ^^^ a=c ^^^ b):a=b:=zgi a b c (by rw [Nat.xor_comm a,Nat.xor_comm b];exact h)
theorem reg_inj(l:List UInt8):∀a b,a<4294967296->b<4294967296->reg l a=reg l b->a=b:=by
 induction l with
 | nil=>intro a b _ _ h;exact h
 | cons x l ih=>
  intro a b ha hb h;have:=ih _ _ (steps_lt 8 _ (xor_byte_lt a x ha)) (steps_lt 8 _ (xor_byte_lt b x hb)) h;have:=zei 8 _ _ (xor_byte_lt a x ha) (xor_byte_lt b x hb) this;exact zgi _ _ _ this
theorem zvo(a w:Nat):step (a ^^^ 2*w)=step a ^^^ w:=by
 have hm:(a ^^^ 2*w) % 2=a % 2:=by
  have:=Nat.xor_mod_two_pow (a:=a) (b:=2*w) (n:=1);simp only [Nat.pow_one] at this;rw [this];simp
 have hd:(a ^^^ 2*w) / 2=(a / 2)^^^ w:=by
  have:=Nat.shiftRight_xor_distrib (a:=a) (b:=2*w) (i:=1);simpa [Nat.shiftRight_eq_div_pow] using this
 unfold step;rw [hm,hd];split
 ·rw [Nat.xor_assoc,Nat.xor_assoc,Nat.xor_comm w]
 ·rfl
theorem zrt(k:Nat):∀(a w:Nat),steps k (a ^^^ 2 ^ k*w)=steps k a ^^^ w:=by
 induction k with
 | zero=>intro a w;simp [steps]
 | succ k ih=>
  intro a w;rw [steps,steps,show 2 ^(k+1)*w=2 ^ k*(2*w) by rw [Nat.pow_succ];simp [Nat.mul_assoc],ih,zvo]
theorem zpb(x0 x1 x2 x3:Nat)(c:Nat):steps 8 (steps 8 (steps 8 (steps 8 (c ^^^ x0)^^^ x1)^^^ x2)^^^ x3)=steps 8 (steps 8 (steps 8 (steps 8 (c ^^^(x0 ^^^ 256*(x1 ^^^ 256*(x2 ^^^ 256*x3))))))):=by
 have h:=zrt 8;simp only [show(2:Nat)^ 8=256 from rfl] at h;rw [←Nat.xor_assoc,h,←Nat.xor_assoc,h,←Nat.xor_assoc,h]
theorem zio(a b x y:Nat)(ha:a<256)(hb:b<256)(h:a ^^^ 256*x=b ^^^ 256*y):a=b∧x=y:=by
 have e:∀p q:Nat,p<256->p ^^^ 256*q=256*q+p:=by
  intro p q hp;have:=Nat.two_pow_add_eq_or_of_lt (i:=8) (b:=p) hp q;rw [Nat.xor_comm]
  have h2:256*q ^^^ p=256*q ||| p:=by
   apply Nat.eq_of_testBit_eq;intro i;rw [Nat.testBit_xor,Nat.testBit_or];by_cases hi:i<8
   ·have:(256*q).testBit i=false:=by
     rw [show 256=2 ^ 8 from rfl,Nat.testBit_two_pow_mul];simp;omega
    rw [this];simp
   ·have:p.testBit i=false:=Nat.testBit_lt_two_pow (Nat.lt_of_lt_of_le hp (Nat.pow_le_pow_right (n:=2) (by omega) (show 8<=i by omega)))
    rw [this];simp
  rw [h2];exact this.symm
 rw [e a x ha,e b y hb] at h;omega
theorem ztx(p r:List UInt8)(x0 x1 x2 x3 y0 y1 y2 y3:UInt8)(h:sum (p++ [x0,x1,x2,x3]++r)=sum (p++ [y0,y1,y2,y3]++r)): [x0,x1,x2,x3]= [y0,y1,y2,y3]:=by
 have hr:∀l,reg l 4294967295<4294967296:=fun l=>reg_lt l _ (by omega)
 have h1:reg (p++ [x0,x1,x2,x3]++r) 4294967295=reg (p++ [y0,y1,y2,y3]++r) 4294967295:=by
  unfold sum at h;have:=hr (p++ [x0,x1,x2,x3]++r);have:=hr (p++ [y0,y1,y2,y3]++r);omega
 rw [zdw,zdw,zdw,zdw] at h1;have hp:=hr p;generalize reg p 4294967295=c at *
 have h2:=reg_inj r _ _ (reg_lt _ _ hp) (reg_lt _ _ hp) h1;simp only [reg] at h2;rw [zpb,zpb] at h2;have b:=byte_lt
 have w32:∀a b c d:UInt8,a.toNat ^^^ 256*(b.toNat ^^^ 256*(c.toNat ^^^ 256*d.toNat))<4294967296:=by
  intro a b c d;have h1:=byte_lt a;have h2:=byte_lt b;have h3:=byte_lt c;have h4:=byte_lt d
  have k1:c.toNat ^^^ 256*d.toNat<2 ^ 16:=Nat.xor_lt_two_pow (by omega) (by omega);have k2:b.toNat ^^^ 256*(c.toNat ^^^ 256*d.toNat)<2 ^ 24:=Nat.xor_lt_two_pow (by omega) (by omega);exact Nat.xor_lt_two_pow (n:=32) (by omega) (by omega)
 have cx:c ^^^(x0.toNat ^^^ 256*(x1.toNat ^^^ 256*(x2.toNat ^^^ 256*x3.toNat)))<4294967296:=Nat.xor_lt_two_pow (n:=32) hp (w32 _ _ _ _);have cy:c ^^^(y0.toNat ^^^ 256*(y1.toNat ^^^ 256*(y2.toNat ^^^ 256*y3.toNat)))<4294967296:=Nat.xor_lt_two_pow (n:=32) hp (w32 _ _ _ _);have s1:=fun z hz=>steps_lt 8 z hz
 have h3:=zei 8 _ _ (s1 _ (s1 _ (s1 _ cx))) (s1 _ (s1 _ (s1 _ cy))) h2;have h4:=zei 8 _ _ (s1 _ (s1 _ cx)) (s1 _ (s1 _ cy)) h3;have h5:=zei 8 _ _ (s1 _ cx) (s1 _ cy) h4;have h6:=zei 8 _ _ cx cy h5;have h7:=zm6 _ _ _ h6;obtain⟨e0,h8⟩:=zio _ _ _ _ (b x0) (b y0) h7;obtain⟨e1,h9⟩:=zio _ _ _ _ (b x1) (b y1) h8;obtain⟨e2,e3⟩:=zio _ _ _ _ (b x2) (b y2) h9;rw [UInt8.toNat_inj.1 e0,UInt8.toNat_inj.1 e1,UInt8.toNat_inj.1 e2,UInt8.toNat_inj.1 e3]
theorem zsd(p r:List UInt8)(x:UInt8):one (p++x::r) (some p.length)=x.toNat:=by
 simp [one,List.getD]
theorem zsf(p r:List UInt8)(x:UInt8):nxt (p++x::r) (some p.length)=some (p.length+1):=by
 simp [nxt]
def byteI(n:Int):Prop:=0<=n∧n<=255
theorem be1_nat(n:Int)(h:byteI n):((UInt8.ofNat (n % 256).toNat).toNat:Int)=n:=by
 obtain⟨h1,h2⟩:=h;rw [ofNat_toNat];omega
theorem zck(p r:List UInt8)(n:Int)(h:byteI n):one (p++(be1 n++r)) (some p.length)=n:=by
 show one (p++UInt8.ofNat (n % 256).toNat::r) _=n;rw [zsd,be1_nat n h]
theorem zcl(p r:List UInt8)(n:Int):nxt (p++(be1 n++r)) (some p.length)=some (p++be1 n).length:=by
 show nxt (p++UInt8.ofNat (n % 256).toNat::r) _=_;rw [zsf];simp [be1]
theorem two_be2(p r:List UInt8)(n:Int):two true (p++(be2 n++r)) (some p.length)=n % 65536∧nxt2 (p++(be2 n++r)) (some p.length)=some (p++be2 n).length:=by
 have e:p++(be2 n++r)=p++UInt8.ofNat (n / 256 % 256).toNat::(UInt8.ofNat (n % 256).toNat::r):=rfl;have e2:p++UInt8.ofNat (n / 256 % 256).toNat::(UInt8.ofNat (n % 256).toNat::r)=(p++ [UInt8.ofNat (n / 256 % 256).toNat])++UInt8.ofNat (n % 256).toNat::r:=by simp
 have h1:=zsf p (UInt8.ofNat (n % 256).toNat::r) (UInt8.ofNat (n / 256 % 256).toNat);have h2:=zsd (p++ [UInt8.ofNat (n / 256 % 256).toNat]) r (UInt8.ofNat (n % 256).toNat);have h3:=zsf (p++ [UInt8.ofNat (n / 256 % 256).toNat]) r (UInt8.ofNat (n % 256).toNat);rw [←e2,ah,List.length_singleton] at h2 h3;rw [e];refine⟨?_, ?_⟩
 ·simp only [two,Bool.not_true,Bool.false_and,h1,h2,zsd,ofNat_toNat]
  simp;omega
 ·simp only [nxt2,h1,h3]
  simp [be2]
def byteD(d:Dt):Prop:=byteI d.o∧byteI d.s∧byteI d.i
theorem zqn(p r:List UInt8)(d:Dt)(h:byteD d):dotF (p++(dotB d++r)) (some p.length)=(d,some (p++dotB d).length):=by
 have a1:=zck p (be1 d.s++(be1 d.i++r)) d.o h.1;have a2:=zcl p (be1 d.s++(be1 d.i++r)) d.o;have b1:=zck (p++be1 d.o) (be1 d.i++r) d.s h.2.1;have b2:=zcl (p++be1 d.o) (be1 d.i++r) d.s;have c1:=zck (p++be1 d.o++be1 d.s) r d.i h.2.2;have c2:=zcl (p++be1 d.o++be1 d.s) r d.i;simp only [au] at a1 a2 b1 b2 c1 c2;have e:p++(dotB d++r)=p++(be1 d.o++(be1 d.s++(be1 d.i++r))):=by simp [dotB]
 rw [e];simp only [dotF,dotR,nxt2,nxt3,a1,a2,b1,b2,c1,c2,dotB,au]
theorem zyr{α:Type}(F:List UInt8->St->α×St)(f:α->List UInt8)(P:α->Prop)(hF:∀p r x,P x->F (p++(f x++r)) (some p.length)=(x,some (p++f x).length))
  (l:List α) (p r:List UInt8) (h:∀x∈l,P x):∀k,k<=l.length->run (F (p++(l.flatMap f++r))) k (some p.length)=(l.take k,some (p++(l.take k).flatMap f).length):=by
 intro k;induction k with
 | zero=>intro _;simp [run]
 | succ k ih=>
  intro hk;have hk':k<l.length:=by omega
  rw [run,ih (by omega)];have hx:=hF (p++(l.take k).flatMap f) ((l.drop (k+1)).flatMap f++r) l[k] (h _ (aU hk'))
  have e:p++(l.flatMap f++r)=p++(l.take k).flatMap f++(f l[k]++((l.drop (k+1)).flatMap f++r)):=by
   have e1:l.flatMap f=(l.take k).flatMap f++(f l[k]++(l.drop (k+1)).flatMap f):=by
    conv=>lhs;rw [←aH k l,List.drop_eq_getElem_cons hk']
    rw [List.flatMap_append,List.flatMap_cons]
   rw [e1];simp
  rw [e,hx,take_flat f l k hk',aC hk'];simp
theorem znn{α:Type}(F:List UInt8->St->α×St)(f:α->List UInt8)(P:α->Prop)(hF:∀p r x,P x->F (p++(f x++r)) (some p.length)=(x,some (p++f x).length))(l:List α)(p r:List UInt8)(h:∀x∈l,P x):
  run (F (p++(l.flatMap f++r))) l.length (some p.length)=(l,some (p++l.flatMap f).length):=by
 have:=zyr F f P hF l p r h l.length (ac _);rwa [List.take_length] at this
theorem zz7(p r:List UInt8)(z:Int)(h:byteI z):oneF (p++(be1 z++r)) (some p.length)=(z,some (p++be1 z).length):=by
 simp only [oneF,zck p r z h,zcl]
structure WrE(e:Ef):Prop where
 op:1<=e.op∧e.op<=6
 ob:byteI e.ob
 va: -1000<=e.va∧e.va<=1000
 ref0:rRef e.op=0->e.ref=⟨0,0,0⟩
 ref:byteD e.ref
 dots0:¬0<rMostD e.op->e.dots= []
 dots:∀d∈e.dots,byteD d
 len:e.dots.length<=150
theorem eff_read(p r:List UInt8)(e:Ef)(h:WrE e):effF true (p++(effB e++r)) (some p.length)=(e,some (p++effB e).length):=by
 let R:List UInt8:=if rRef e.op=0 then [] else dotB e.ref
 let D:List UInt8:=if 0<rMostD e.op then be1 e.dots.length++e.dots.flatMap dotB else []
 have hE:effB e=be1 e.op++(be1 e.ob++(be2 e.va++(R++D))):=by simp [effB,R,D]
 generalize hc:p++(effB e++r)=c;have hc':c=p++(be1 e.op++(be1 e.ob++(be2 e.va++(R++(D++r))))):=by rw [←hc,hE];simp
 have opB:byteI e.op:=⟨by have:=h.op.1;omega,by have:=h.op.2;omega⟩
 have a1:one c (some p.length)=e.op:=by rw [hc'];exact zck p _ e.op opB
 have a2:nxt c (some p.length)=some (p++be1 e.op).length:=by rw [hc'];exact zcl p _ e.op
 have b0:c=p++be1 e.op++(be1 e.ob++(be2 e.va++(R++(D++r)))):=by rw [hc'];simp
 have b1:one c (some (p++be1 e.op).length)=e.ob:=by rw [b0];exact zck _ _ e.ob h.ob
 have b2:nxt c (some (p++be1 e.op).length)=some (p++be1 e.op++be1 e.ob).length:=by rw [b0];exact zcl _ _ e.ob
 have c0:c=p++be1 e.op++be1 e.ob++(be2 e.va++(R++(D++r))):=by rw [hc'];simp
 have c1:=two_be2 (p++be1 e.op++be1 e.ob) (R++(D++r)) e.va;rw [←c0] at c1;have d0:c=p++be1 e.op++be1 e.ob++be2 e.va++(R++(D++r)):=by rw [hc'];simp
 have q2:nxt2 c (some p.length)=some (p++be1 e.op++be1 e.ob).length:=by simp only [nxt2,a2,b2]
 have q4:nxt2 c (nxt2 c (some p.length))=some (p++be1 e.op++be1 e.ob++be2 e.va).length:=by rw [q2,c1.2]
 have h5:eff5 true c (some p.length)=some (p++be1 e.op++be1 e.ob++be2 e.va).length:=by
  have:isOp e.op=true:=by simp [isOp,h.op]
  simp [eff5,a1,this,q4]
 have h6:eff6 true c (some p.length)=some (p++be1 e.op++be1 e.ob++be2 e.va++R).length∧(if rRef e.op=0 then(⟨0,0,0⟩:Dt) else dotR c (eff5 true c (some p.length)))=e.ref:=by
  unfold eff6;rw [a1,h5];by_cases hr:rRef e.op=0
  ·rw [aA hr,aA hr,h.ref0 hr]
   simp [R,hr]
  ·rw [ap hr,ap hr]
   have hR:R=dotB e.ref:=by simp [R,hr]
   have:=zqn (p++be1 e.op++be1 e.ob++be2 e.va) (D++r) e.ref h.ref;rw [←hR,←d0] at this;exact⟨aD Prod.snd this,aD Prod.fst this⟩
 have hD:effD true c (some p.length)=(e.dots,some (p++effB e).length):=by
  unfold effD;rw [a1,h6.1];by_cases hm:0<rMostD e.op
  ·rw [aA hm]
   have hDD:D=be1 e.dots.length++e.dots.flatMap dotB:=by simp [D,hm]
   have f0:c=p++be1 e.op++be1 e.ob++be2 e.va++R++(be1 e.dots.length++(e.dots.flatMap dotB++r)):=by rw [hc',hDD];simp
   have nB:byteI (e.dots.length:Int):=⟨by omega,by have:=h.len;omega⟩
   have f1:one c (some (p++be1 e.op++be1 e.ob++be2 e.va++R).length)=e.dots.length:=by rw [f0];exact zck _ _ _ nB
   have f2:nxt c (some (p++be1 e.op++be1 e.ob++be2 e.va++R).length)=some (p++be1 e.op++be1 e.ob++be2 e.va++R++be1 e.dots.length).length:=by rw [f0];exact zcl _ _ _
   rw [f1,f2,aj];have f3:=znn dotF dotB byteD zqn e.dots (p++be1 e.op++be1 e.ob++be2 e.va++R++be1 e.dots.length) r h.dots;have f4:p++be1 e.op++be1 e.ob++be2 e.va++R++be1 e.dots.length++(e.dots.flatMap dotB++r)=c:=by rw [f0];simp
   rw [f4] at f3;rw [f3,hE,hDD];simp
  ·rw [ap hm,h.dots0 hm,hE]
   simp [D,hm]
 have hv:v16 (two true c (nxt2 c (some p.length)))=e.va:=by
  rw [q2,c1.1];have:=h.va;unfold v16;split<;>omega
 simp only [effF,a1,a2,b1,hv,h6.2,hD]
theorem dotsTo_at(b:Bt)(i:Int)(ds:List Dt):∀n k,k<n->dotsTo b i ds n=true->dOk b i ds k=true
 | n+1,k,hk,h=>by
  rw [dotsTo,ak] at h;rcases Nat.lt_succ_iff_lt_or_eq.1 hk with hk | rfl
  ·exact dotsTo_at b i ds n k hk h.1
  ·exact h.2
theorem zqz{b:Bt}{d:Dt}{i:Int}(hs:b.s<=30)(hl:b.clock.length<=4)(hc:∀k,k<b.clock.length->b.clock.getD k 0<=30)(h:cov b d i=true):byteD d:=by
 simp only [cov,inD,ak,Bool.or_eq_true,aq,beq_iff_eq] at h;obtain⟨⟨⟨⟨⟨h1,h2⟩,h3⟩,h4⟩,h5⟩,h6⟩:=h
 have h7:d.s<=30:=by
  rcases h6 with e | e
  ·have:=hc d.o.toNat (by omega);omega
  ·omega
 exact⟨⟨h1,by omega⟩,⟨by omega,by omega⟩,⟨h4,by omega⟩⟩
theorem eff_wr{b:Bt}{e:Ef}{i:Int}(hs:b.s<=30)(hl:b.clock.length<=4)(hc:∀k,k<b.clock.length->b.clock.getD k 0<=30)(h:effOk b i e=true):WrE e:=by
 simp only [effOk,isOp,ak,aq,beq_iff_eq] at h;obtain⟨⟨⟨⟨⟨ho,⟨hb1,hb2⟩,_⟩,hv1,hv2⟩,hr⟩,hd1,hd2⟩,hd⟩:=h;have m150:rMostD e.op<=150:=by unfold rMostD;repeat' split<;>omega
 have none_ref:noneD e.ref=true->e.ref=⟨0,0,0⟩:=by
  intro hn;simp only [noneD,ak,beq_iff_eq] at hn;obtain⟨⟨h1,h2⟩,h3⟩:=hn;cases hh:e.ref with
  | mk o s i=>rw [hh] at h1 h2 h3;simp at h1 h2 h3;rw [h1,h2,h3]
 refine⟨ho,⟨hb1,by omega⟩, ?_, ?_, ?_, ?_, ?_,by omega⟩
 ·unfold rLeast at hv1
  unfold rGreat at hv2;split at hv1<;>split at hv2<;>(try split at hv2)<;>(try split at hv2)<;>omega
 ·intro h0
  cases hn:noneD e.ref with
  | true=>exact none_ref hn
  | false=>simp [refOk,hn,h0] at hr
 ·cases hn:noneD e.ref with
  | true=>rw [none_ref hn];exact⟨⟨by decide,by decide⟩,⟨by decide,by decide⟩,⟨by decide,by decide⟩⟩
  | false=>
   simp only [refOk,hn,Bool.false_eq_true,if_false,ak] at hr;exact zqz hs hl hc hr.2
 ·intro hm
  exact aw (by omega)
 ·intro d hdm
  obtain⟨k,hk,rfl⟩:=aI.1 hdm;have:=dotsTo_at b i e.dots e.dots.length k hk hd;simp only [dOk,ak] at this;have h2:=this.2;rw [show e.dots.getD k ⟨0,0,0⟩=e.dots[k] by simp [hk]] at h2;exact zqz hs hl hc h2
theorem bat_read(p:List UInt8)(b:Bt)(h:isB b=true):batF true (p++contentB b) (some p.length)=(b,some (p++contentB b).length):=by
 have h':=h;simp only [isB,ak] at h';obtain⟨hH,hE⟩:=h';simp only [headOk,ak,aq] at hH;obtain⟨⟨⟨⟨⟨⟨c1,c2⟩,o1,o2⟩,s1,s2⟩,t1,t2⟩,e1,e2⟩,hclk⟩:=hH
 have hc:∀k,k<b.clock.length->byteI (b.clock.getD k 0)∧b.clock.getD k 0<=30:=by
  intro k hk;have:=zk7 b b.clock.length k hk hclk;simp only [cOk,ak,aq] at this;exact⟨⟨this.1.1,by omega⟩,this.1.2⟩
 have hcl:∀z∈b.clock,byteI z:=by
  intro z hz;obtain⟨k,hk,rfl⟩:=aI.1 hz;have:=(hc k hk).1;rwa [show b.clock.getD k 0=b.clock[k] by simp [hk]] at this
 have hef:∀e∈b.effs,WrE e:=by
  intro e he;obtain⟨k,hk,rfl⟩:=aI.1 he;have:=zg2 b b.effs.length k hk hE;rw [show b.effs.getD k ⟨0,0,0,⟨0,0,0⟩, []⟩=b.effs[k] by simp [hk]] at this;exact eff_wr s2 c2 (fun k hk=>(hc k hk).2) this
 generalize hC:p++contentB b=c;have x0:c=p++(be1 b.o++(be1 b.s++(be1 b.t++(be1 b.clock.length++(b.clock.flatMap be1++(be1 b.effs.length++(b.effs.flatMap effB++ []))))))):=by rw [←hC];simp [contentB,headB,hd4]
 have x1:c=p++be1 b.o++(be1 b.s++(be1 b.t++(be1 b.clock.length++(b.clock.flatMap be1++(be1 b.effs.length++(b.effs.flatMap effB++ [])))))):=by rw [x0];simp
 have x2:c=p++be1 b.o++be1 b.s++(be1 b.t++(be1 b.clock.length++(b.clock.flatMap be1++(be1 b.effs.length++(b.effs.flatMap effB++ []))))):=by rw [x0];simp
 have x3:c=p++be1 b.o++be1 b.s++be1 b.t++(be1 b.clock.length++(b.clock.flatMap be1++(be1 b.effs.length++(b.effs.flatMap effB++ [])))):=by rw [x0];simp
 have x4:p++be1 b.o++be1 b.s++be1 b.t++be1 b.clock.length++(b.clock.flatMap be1++(be1 b.effs.length++(b.effs.flatMap effB++ [])))=c:=by rw [x0];simp
 have x5:c=p++be1 b.o++be1 b.s++be1 b.t++be1 b.clock.length++b.clock.flatMap be1++(be1 b.effs.length++(b.effs.flatMap effB++ [])):=by rw [x0];simp
 have x6:p++be1 b.o++be1 b.s++be1 b.t++be1 b.clock.length++b.clock.flatMap be1++be1 b.effs.length++(b.effs.flatMap effB++ [])=c:=by rw [x0];simp
 have a1:one c (some p.length)=b.o:=by rw [x0];exact zck _ _ _ ⟨o1,by omega⟩
 have a2:nxt c (some p.length)=some (p++be1 b.o).length:=by rw [x0];exact zcl _ _ _
 have b1:one c (some (p++be1 b.o).length)=b.s:=by rw [x1];exact zck _ _ _ ⟨by omega,by omega⟩
 have b2:nxt c (some (p++be1 b.o).length)=some (p++be1 b.o++be1 b.s).length:=by rw [x1];exact zcl _ _ _
 have d1:one c (some (p++be1 b.o++be1 b.s).length)=b.t:=by rw [x2];exact zck _ _ _ ⟨by omega,by omega⟩
 have d2:nxt c (some (p++be1 b.o++be1 b.s).length)=some (p++be1 b.o++be1 b.s++be1 b.t).length:=by rw [x2];exact zcl _ _ _
 have f1:one c (some (p++be1 b.o++be1 b.s++be1 b.t).length)=b.clock.length:=by rw [x3];exact zck _ _ _ ⟨by omega,by omega⟩
 have f2:nxt c (some (p++be1 b.o++be1 b.s++be1 b.t).length)=some (p++be1 b.o++be1 b.s++be1 b.t++be1 b.clock.length).length:=by rw [x3];exact zcl _ _ _
 have hCk:batC c (some p.length)=(b.clock,some (p++be1 b.o++be1 b.s++be1 b.t++be1 b.clock.length++b.clock.flatMap be1).length):=by
  have:=znn oneF be1 byteI zz7 b.clock (p++be1 b.o++be1 b.s++be1 b.t++be1 b.clock.length) (be1 b.effs.length++(b.effs.flatMap effB++ [])) hcl;rw [x4] at this;simp only [batC,nxt3,a2,b2,d2,f1,f2,aj,this]
 have g1:one c (some (p++be1 b.o++be1 b.s++be1 b.t++be1 b.clock.length++b.clock.flatMap be1).length)=b.effs.length:=by rw [x5];exact zck _ _ _ ⟨by omega,by omega⟩
 have g2:nxt c (some (p++be1 b.o++be1 b.s++be1 b.t++be1 b.clock.length++b.clock.flatMap be1).length)=some (p++be1 b.o++be1 b.s++be1 b.t++be1 b.clock.length++b.clock.flatMap be1++be1 b.effs.length).length:=by rw [x5];exact zcl _ _ _
 have hEf:batE true c (some p.length)=(b.effs,some c.length):=by
  have:=znn (effF true) effB WrE eff_read b.effs (p++be1 b.o++be1 b.s++be1 b.t++be1 b.clock.length++b.clock.flatMap be1++be1 b.effs.length) [] hef;rw [x6] at this;simp only [batE,hCk,g1,g2,aj,this];rw [←x6];simp
 simp only [batF,a1,nxt2,a2,b1,b2,d1,hCk,hEf]
theorem zt4{b:Bt}(h:isB b=true):(contentB b).length<=2600:=by
 have h':=h;simp only [isB,ak] at h';have hH:=h'.1;simp only [headOk,ak,aq] at hH
 have hd:∀e∈b.effs,(effB e).length<=500:=by
  intro e he;obtain⟨k,hk,rfl⟩:=aI.1 he;have:=zg2 b b.effs.length k hk h'.2;rw [show b.effs.getD k ⟨0,0,0,⟨0,0,0⟩, []⟩=b.effs[k] by simp [hk]] at this;simp only [effOk,ak,aq] at this;have h3:=this.1.2.2;have:rMostD b.effs[k].op<=150:=by unfold rMostD;repeat' split<;>omega
  exact effB_len _ (by omega)
 have hl:∀l:List Ef,(∀e∈l,(effB e).length<=500)->(l.flatMap effB).length<=500*l.length:=by
  intro l;induction l with
  | nil=>intro _;simp
  | cons x l ih=>
   intro hx;have h1:=hx x (by simp);have h2:=ih (fun y hy=>hx y (by simp [hy]));simp only [List.flatMap_cons,ah,aJ];omega
 have:=hl b.effs hd;have h5:=flat1_len b.clock;have:(hd4 b).length=4:=rfl;simp only [contentB,headB,ah,be1_len];omega
theorem dec_frame(b:Bt)(h:isB b=true):dec (frameB b)=some b:=by
 have hl:=zt4 h;have h2:(be2 ((contentB b).length+6)).length=2:=rfl;have h4:(be4 (sum (bodyB b):Nat)).length=4:=rfl;have hbl:(bodyB b).length=(contentB b).length+2:=by unfold bodyB;rw [ah,h2];omega
 have hfl:(frameB b).length=(contentB b).length+6:=by unfold frameB;rw [ah,h4,hbl]
 have hbody:body (frameB b)=bodyB b:=by
  unfold body;rw [hfl,show(contentB b).length+6 - 4=(bodyB b).length by omega];exact List.take_left
 have htail:tail4 (frameB b)=be4 (sum (bodyB b):Nat):=by
  unfold tail4;rw [hfl,show(contentB b).length+6 - 4=(bodyB b).length by omega];exact List.drop_left
 have hnum:num2 (frameB b)=(frameB b).length:=by
  have e:frameB b=UInt8.ofNat (((contentB b).length+6:Int) / 256 % 256).toNat::UInt8.ofNat (((contentB b).length+6:Int) % 256).toNat::(contentB b++be4 (sum (bodyB b):Nat)):=by
   simp [frameB,bodyB,be2]
  have e1:=ofNat_toNat (((contentB b).length+6:Int) / 256);have e2:=ofNat_toNat ((contentB b).length+6:Int);rw [hfl,e];simp only [num2,List.getD_cons_zero,List.getD_cons_succ];omega
 unfold dec;rw [aA ⟨by omega,hnum,by rw [hbody];exact htail⟩,hbody];have hr:=bat_read (be2 ((contentB b).length+6)) b h;rw [h2] at hr;have hr':batF true (bodyB b) (some 2)=(b,some (bodyB b).length):=hr;unfold decC;rw [hr',aA ⟨rfl,h⟩]
theorem frame_len(b:Bt)(h:isB b=true):(frameB b).length=(contentB b).length+6∧num2 (frameB b)=(frameB b).length∧(contentB b).length<=2600∧9<=(contentB b).length:=by
 have hl:=zt4 h;have h2:(be2 ((contentB b).length+6)).length=2:=rfl;have h4:(be4 (sum (bodyB b):Nat)).length=4:=rfl;have hfl:(frameB b).length=(contentB b).length+6:=by unfold frameB bodyB;rw [ah,ah,h2];show 2+_+4=_;omega
 refine⟨hfl, ?_,hl, ?_⟩
 ·have e:frameB b=UInt8.ofNat (((contentB b).length+6:Int) / 256 % 256).toNat::UInt8.ofNat (((contentB b).length+6:Int) % 256).toNat::(contentB b++be4 (sum (bodyB b):Nat)):=by
   simp [frameB,bodyB,be2]
  have e1:=ofNat_toNat (((contentB b).length+6:Int) / 256);have e2:=ofNat_toNat ((contentB b).length+6:Int);rw [hfl,e];simp only [num2,List.getD_cons_zero,List.getD_cons_succ];omega
 ·have h':=h
  simp only [isB,ak] at h';have hH:=h'.1;simp only [headOk,ak,aq] at hH;have h5:=flat1_len b.clock;have h6:(hd4 b).length=4:=rfl
  have h7:2<=(b.effs.flatMap effB).length:=by
   cases he:b.effs with
   | nil=>rw [he] at hH;simp at hH
   | cons x l=>
    rw [List.flatMap_cons,ah]
    have:4<=(effB x).length:=by
     have h2:(be2 x.va).length=2:=rfl;simp only [effB,ah,be1_len,h2];omega
    omega
  simp only [contentB,headB,ah,be1_len];omega
theorem be4_inj{m n:Nat}(hm:m<4294967296)(hn:n<4294967296)(h:be4 (m:Int)=be4 (n:Int)):m=n:=by
 have e:∀k:Nat,k<4294967296->((be4 (k:Int)).foldl (fun a x=>256*a+x.toNat) 0:Nat)=k:=by
  intro k hk;have e1:=ofNat_toNat ((k:Int) / 16777216);have e2:=ofNat_toNat ((k:Int) / 65536);have e3:=ofNat_toNat ((k:Int) / 256);have e4:=ofNat_toNat (k:Int);simp only [be4,List.foldl];omega
 rw [←e m hm,←e n hn,h]
theorem zuo(l:List UInt8)(h:l.length=4):∃a b c d,l= [a,b,c,d]:=by
 match l,h with
 | [a,b,c,d],_=>exact⟨a,b,c,d,rfl⟩
theorem zxp(b:Bt)(h:isB b=true)(t:List UInt8)(hl:t.length=(frameB b).length)(hne:t ≠ frameB b)
  (hw:(∀j,j<(frameB b).length - 4->t[j]?=(frameB b)[j]?)∨((∀j,(frameB b).length - 4<=j->t[j]?=(frameB b)[j]?)∧∃i,∀j,j<i∨i+4<=j->t[j]?=(frameB b)[j]?)):dec t=none:=by
 obtain⟨hfl,hn,hc1,hc2⟩:=frame_len b h;have hfd:=dec_frame b h;unfold dec at hfd ⊢;split at hfd
 ·rename_i hf
  rw [ap];rintro⟨_,_,h3⟩;rcases hw with hb | ⟨htl,i,hj⟩
  ·
   have e1:body t=body (frameB b):=by
    apply List.ext_getElem?;intro j;unfold body;rw [hl];rcases Nat.lt_or_ge j ((frameB b).length - 4) with hlt | hge
    ·rw [aL hlt,aL hlt,hb j hlt]
    ·rw [aF (by rw [al];omega),aF (by rw [al];omega)]
   rw [e1,←hf.2.2] at h3;exact hne (by rw [←body_tail' t,←body_tail' (frameB b),e1,h3])
  ·have e2:tail4 t=tail4 (frameB b):=by
    apply List.ext_getElem?;intro j;unfold tail4;rw [hl,List.getElem?_drop,List.getElem?_drop];exact htl _ (by omega)
   have hs:sum (body t)=sum (body (frameB b)):=by
    rw [e2,hf.2.2] at h3;exact(be4_inj (sum_lt' _) (sum_lt' _) h3).symm
   have hlb:(body t).length=(contentB b).length+2:=by unfold body;rw [al,hl,hfl];omega
   have hlf:(body (frameB b)).length=(contentB b).length+2:=by unfold body;rw [al,hfl];omega
   obtain⟨k,hk1,hk2⟩:∃k,k+4<=(contentB b).length+2∧∀j,j<k∨k+4<=j->(body t)[j]?=(body (frameB b))[j]?:=by
    refine⟨min i ((contentB b).length - 2),by omega,fun j hj'=> ?_⟩;rcases Nat.lt_or_ge j ((contentB b).length+2) with hlt | hge
    ·unfold body
     rw [hl,aL (by omega),aL (by omega)];exact hj j (by omega)
    ·rw [aF (by omega),aF (by omega)]
   have part:∀l:List UInt8,l.length=(contentB b).length+2->l=l.take k++(l.drop k).take 4++l.drop (k+4):=by
    intro l _;conv=>lhs;rw [←aH k l,←aH 4 (l.drop k)]
    rw [List.drop_drop,au]
   have p1:(body t).take k=(body (frameB b)).take k:=by
    apply List.ext_getElem?;intro j;rcases Nat.lt_or_ge j k with hlt | hge
    ·rw [aL hlt,aL hlt];exact hk2 j (Or.inl hlt)
    ·rw [aF (by rw [al];omega),aF (by rw [al];omega)]
   have p2:(body t).drop (k+4)=(body (frameB b)).drop (k+4):=by
    apply List.ext_getElem?;intro j;rw [List.getElem?_drop,List.getElem?_drop];exact hk2 _ (Or.inr (by omega))
   obtain⟨x0,x1,x2,x3,ex⟩:=zuo (((body t).drop k).take 4) (by rw [al,aP];omega);obtain⟨y0,y1,y2,y3,ey⟩:=zuo (((body (frameB b)).drop k).take 4) (by rw [al,aP];omega);have q1:=part (body t) hlb;have q2:=part (body (frameB b)) hlf;rw [ex,p1,p2] at q1;rw [ey] at q2;have hs':sum ((body (frameB b)).take k++ [x0,x1,x2,x3]++(body (frameB b)).drop (k+4))=sum ((body (frameB b)).take k++ [y0,y1,y2,y3]++(body (frameB b)).drop (k+4)):=by rw [←q1,←q2];exact hs
   have:=ztx _ _ x0 x1 x2 x3 y0 y1 y2 y3 hs';rw [this] at q1;have e1:body t=body (frameB b):=q1.trans q2.symm;exact hne (by rw [←body_tail' t,←body_tail' (frameB b),e1,e2])
 ·cases hfd
where
 body_tail' (s:List UInt8):body s++tail4 s=s:=aH _ _
 sum_lt' (l:List UInt8):sum l<4294967296:=by unfold sum;omega
def pk(c n:Int):Int:=(if c<0 then -(c+1) else c) % n
theorem pk_lt(c n:Int)(h:0<n):0<=pk c n∧pk c n<n:=⟨Int.emod_nonneg _ (by omega),Int.emod_lt_of_pos _ h⟩
def mkD(k v:Int):Dt:=⟨pk v k,1,pk (v.tdiv 7) 5⟩
def mkE(k v:Int):Ef:=
 if 1+pk v 6=1 then⟨1,0,pk (v.tdiv 6) 2001 - 1000,⟨0,0,0⟩, []⟩
 else if 1+pk v 6=2 then⟨2,1,pk (v.tdiv 6) 256,⟨0,0,0⟩, []⟩
 else if 1+pk v 6=3 then⟨3,5,0,⟨0,0,0⟩, [mkD k v]⟩
 else if 1+pk v 6=4 then⟨4,2,pk (v.tdiv 6) 256,⟨0,0,0⟩,if pk (v.tdiv 5) 2=0 then [⟨0,1,2⟩,⟨1,1,0⟩] else []⟩
 else if 1+pk v 6=5 then⟨5,7,pk (v.tdiv 6) 256,if pk (v.tdiv 5) 2=0 then mkD k v else⟨0,0,0⟩, []⟩
 else⟨6,3,0,mkD k v, []⟩
def chg(l:List UInt8)(i:Nat)(m:Nat->UInt8):Nat->List UInt8
 | 0=>l
 | k+1=>(chg l i m k).set (i+k) ((chg l i m k).getD (i+k) 0 ^^^ m k)
def chd(m:Nat->UInt8):Nat->Bool
 | 0=>false
 | k+1=>chd m k || m k !=0
theorem chg_len(l:List UInt8)(i:Nat)(m:Nat->UInt8):∀k,(chg l i m k).length=l.length
 | 0=>rfl
 | k+1=>by rw [chg,aE,chg_len l i m k]
theorem zhu(l:List UInt8)(i:Nat)(m:Nat->UInt8)(j:Nat):∀k,(j<i∨i+k<=j)->(chg l i m k)[j]?=l[j]?
 | 0,_=>rfl
 | k+1,h=>by
  rw [chg,aK (by omega)];exact zhu l i m j k (by omega)
theorem chg_in(l:List UInt8)(i:Nat)(m:Nat->UInt8)(j:Nat)(hl:i+j<l.length):∀k,j<k->(chg l i m k)[i+j]?=some (l.getD (i+j) 0 ^^^ m j)
 | 0,h=>absurd h (by omega)
 | k+1,h=>by
  by_cases e:j=k
  ·subst e
   have h1:=zhu l i m (i+j) j (Or.inr (ac _));rw [chg,List.getElem?_set_self (by rw [chg_len];exact hl),ai,h1,←ai]
  ·rw [chg,aK (by omega)]
   exact chg_in l i m j hl k (by omega)
theorem chd_no(m:Nat->UInt8):∀k,chd m k=false->∀j,j<k->m j=0
 | 0,_,j,h=>absurd h (by omega)
 | k+1,h,j,hj=>by
  simp only [chd,Bool.or_eq_false_iff,bne_eq_false_iff_eq] at h;by_cases e:j=k
  ·subst e;exact h.2
  ·exact chd_no m k h.1 j (by omega)
theorem zut(m:Nat->UInt8):∀k,chd m k=true->∃j,j<k∧m j ≠ 0
 | 0,h=>by cases h
 | k+1,h=>by
  simp only [chd,Bool.or_eq_true,bne_iff_ne,ne_eq] at h;rcases h with h | h
  ·obtain⟨j,hj,hm⟩:=zut m k h
   exact⟨j,by omega,hm⟩
  ·exact⟨k,by omega,h⟩
theorem zx8{a b:UInt8}(h:a ^^^ b=a):b=0:=by
 have h1:a ^^^(a ^^^ b)=a ^^^ a:=by rw [h]
 simpa [←UInt8.xor_assoc] using h1
theorem zq8(l:List UInt8)(i:Nat)(m:Nat->UInt8):∀k,chd m k=false->chg l i m k=l
 | 0,_=>rfl
 | k+1,h=>by
  have h0:=chd_no m (k+1) h;simp only [chd,Bool.or_eq_false_iff] at h;rw [chg,zq8 l i m k h.1,h0 k (by omega)];apply List.ext_getElem?;intro j;by_cases e:i+k=j
  ·subst e
   rcases Nat.lt_or_ge (i+k) l.length with hlt | hge
   ·rw [List.getElem?_set_self hlt,ai,ag hlt];simp
   ·rw [aF (by rw [aE];exact hge),aF hge]
  ·rw [aK e]
theorem zxy(l:List UInt8)(i:Nat)(m:Nat->UInt8)(k:Nat)(h:chd m k=true)(hl:i+k<=l.length):chg l i m k ≠ l:=by
 intro e;obtain⟨j,hj,hm⟩:=zut m k h;have h1:=chg_in l i m j (by omega) k hj;rw [e,ag (by omega),ai,ag (by omega)] at h1;exact hm (zx8 (Option.some.inj h1).symm)
def stopAt(n i:Nat):Nat:=if i<n - 4 then n - 4 else n
theorem dec_chg(b:Bt)(h:isB b=true)(i:Nat)(m:Nat->UInt8)(K:Nat)(hK:K<=4)(hs:i+K<=stopAt (frameB b).length i):
  dec (chg (frameB b) i m K)=if chd m K then none else some b:=by
 have hle:stopAt (frameB b).length i<=(frameB b).length:=by unfold stopAt;split<;>omega
 cases hc:chd m K with
 | false=>rw [zq8 _ _ _ _ hc,ap (by simp)];exact dec_frame b h
 | true=>
  rw [aA rfl];refine zxp b h _ (chg_len _ _ _ _) (zxy _ _ _ _ hc (by omega)) ?_;unfold stopAt at hs;split at hs
  ·exact Or.inr ⟨fun j hj=>zhu _ _ _ j K (by omega),i,fun j hj=>zhu _ _ _ j K (by omega)⟩
  ·exact Or.inl fun j hj=>zhu _ _ _ j K (by omega)
end Go.Proofs.YtfmcngncaffloabGreatDoor.Wv
