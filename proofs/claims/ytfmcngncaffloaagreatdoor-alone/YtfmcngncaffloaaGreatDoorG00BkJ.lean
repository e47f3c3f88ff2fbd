namespace Go.Proofs.YtfmcngncaffloaaGreatDoor.Wv
structure Dt where
 o:Int
 s:Int
 i:Int
structure Ef where
 op:Int
 ob:Int
 va:Int
 ref:Dt
 dots:List Dt
structure Bt where
 o:Int
 s:Int
 t:Int
 clock:List Int
 effs:List Ef
def step(c:Nat):Nat:=if c % 2=1 then(c / 2)^^^ 3988292384 else c / 2
def steps:Nat->Nat->Nat
 | 0,c=>c
 | k+1,c=>step (steps k c)
def reg:List UInt8->Nat->Nat
 | [],c=>c
 | b::l,c=>reg l (steps 8 (c ^^^ b.toNat))
def sum(l:List UInt8):Nat:=4294967295 - reg l 4294967295
def bstep(c b:Nat):Nat:=if b % 2=c % 2 then c / 2 else(c / 2)^^^ 3988292384
def bsteps(b:Nat):Nat->Nat->Nat
 | 0,c=>c
 | k+1,c=>bstep (bsteps b k c) (b / 2 ^ k)
theorem zym(c:Nat)(h:c<4294967296):step c<4294967296:=by
 unfold step
 split
 ·exact Nat.xor_lt_two_pow (n:=32) (by omega) (by omega)
 ·omega
theorem steps_lt(k c:Nat)(h:c<4294967296):steps k c<4294967296:=by
 induction k with
 | zero=>exact h
 | succ k ih=>exact zym _ ih
theorem byte_lt(b:UInt8):b.toNat<256:=b.toNat_lt
theorem xor_byte_lt(c:Nat)(b:UInt8)(h:c<4294967296):c ^^^ b.toNat<4294967296:=
 Nat.xor_lt_two_pow (n:=32) h (by have:=byte_lt b;omega)
theorem reg_lt(l:List UInt8):∀c,c<4294967296->reg l c<4294967296:=by
 induction l with
 | nil=>intro c h;exact h
 | cons b l ih=>intro c h;exact ih _ (steps_lt _ _ (xor_byte_lt _ _ h))
theorem zo8(l m:List UInt8):∀c,reg (l++m) c=reg m (reg l c):=by
 induction l with
 | nil=>intro c;rfl
 | cons b l ih=>intro c;exact ih _
theorem reg_snoc(l:List UInt8)(b:UInt8)(c:Nat):reg (l++ [b]) c=steps 8 (reg l c ^^^ b.toNat):=by
 rw [zo8];rfl
theorem zya(c b:Nat)(h:c<4294967296):bstep c b<4294967296:=by
 unfold bstep
 split
 ·omega
 ·exact Nat.xor_lt_two_pow (n:=32) (by omega) (by omega)
theorem bsteps_lt(b k c:Nat)(h:c<4294967296):bsteps b k c<4294967296:=by
 induction k with
 | zero=>exact h
 | succ k ih=>exact zya _ _ ih
theorem zvk(c b:Nat):step (c ^^^ b)=bstep c b ^^^(b / 2):=by
 unfold step bstep
 have hm:(c ^^^ b) % 2=(c+b) % 2:=by
  have:=Nat.xor_mod_two_pow (a:=c) (b:=b) (n:=1)
  simp only [Nat.pow_one] at this
  rw [this]
  rcases Nat.mod_two_eq_zero_or_one c with h | h<;>rcases Nat.mod_two_eq_zero_or_one b with k | k<;>rw [h,k]<;>first | (simp;omega) | omega
 have hd:(c ^^^ b) / 2=(c / 2)^^^(b / 2):=by
  have:=Nat.shiftRight_xor_distrib (a:=c) (b:=b) (i:=1)
  simpa [Nat.shiftRight_eq_div_pow] using this
 rw [hm,hd]
 by_cases h:b % 2=c % 2
 ·rw [if_neg (by omega),if_pos h]
 ·rw [if_pos (by omega),if_neg h,Nat.xor_assoc,Nat.xor_assoc,Nat.xor_comm (b / 2)]
theorem zss(c b:Nat)(k:Nat):steps k (c ^^^ b)=bsteps b k c ^^^(b / 2 ^ k):=by
 induction k with
 | zero=>simp [steps,bsteps]
 | succ k ih=>rw [steps,bsteps,ih,zvk,Nat.div_div_eq_div_mul,←Nat.pow_succ]
theorem bsteps_eight(c:Nat)(b:UInt8):bsteps b.toNat 8 c=steps 8 (c ^^^ b.toNat):=by
 rw [zss,Nat.div_eq_of_lt (byte_lt b)];simp
def tab:List Int:= [0,0,0,0,0,0,0, -1000,1000,0,0,0,1,0,255,0,0,0,1,0,0,0,1,150,2,0,255,0,0,150,3,0,255,1,0,0,3,0,0,2,0,0]
def rKind(op:Int):Int:=if op=1 then 0 else if op=2 then 1 else if op=3 then 1 else if op=4 then 2 else 3
def rLeast(op:Int):Int:=if op=1 then -1000 else 0
def rGreat(op:Int):Int:=if op=1 then 1000 else if op=3 then 0 else if op=6 then 0 else 255
def rRef(op:Int):Int:=if op=5 then 1 else if op=6 then 2 else 0
def rLeastD(op:Int):Int:=if op=3 then 1 else 0
def rMostD(op:Int):Int:=if op=3 then 150 else if op=4 then 150 else 0
def be1(n:Int):List UInt8:= [UInt8.ofNat (n % 256).toNat]
def be2(n:Int):List UInt8:= [UInt8.ofNat (n / 256 % 256).toNat,UInt8.ofNat (n % 256).toNat]
def be4(n:Int):List UInt8:= [UInt8.ofNat (n / 16777216 % 256).toNat,UInt8.ofNat (n / 65536 % 256).toNat,UInt8.ofNat (n / 256 % 256).toNat,UInt8.ofNat (n % 256).toNat]
theorem ofNat_toNat(n:Int):(((UInt8.ofNat (n % 256).toNat).toNat:Nat):Int)=n % 256:=by
 have h:(n % 256).toNat<256:=by omega
 rw [UInt8.toNat_ofNat_of_lt' h]
 omega
def inD(b:Bt)(d:Dt):Bool:=decide (0<=d.o) && decide (d.o<b.clock.length) && decide (1<=d.s) && decide (0<=d.i) && decide (d.i<5)
def cov(b:Bt)(d:Dt)(i:Int):Bool:=
 inD b d && (decide (d.s<=b.clock.getD d.o.toNat 0) || ((d.o==b.o) && (d.s==b.s) && decide (d.i<i)))
def noneD(d:Dt):Bool:=(d.o==0) && (d.s==0) && (d.i==0)
def lessD(a b:Dt):Bool:=if a.o=b.o then decide (a.s<b.s) || ((a.s==b.s) && decide (a.i<b.i)) else decide (a.o<b.o)
def dOk(b:Bt)(i:Int)(ds:List Dt)(k:Nat):Bool:=((k==0) || lessD (ds.getD (k - 1) ⟨0,0,0⟩) (ds.getD k ⟨0,0,0⟩)) && cov b (ds.getD k ⟨0,0,0⟩) i
def dotsTo(b:Bt)(i:Int)(ds:List Dt):Nat->Bool
 | 0=>true
 | k+1=>dotsTo b i ds k && dOk b i ds k
def dotsOk(b:Bt)(i:Int)(ds:List Dt):Bool:=dotsTo b i ds ds.length
def cOk(b:Bt)(k:Nat):Bool:=decide (0<=b.clock.getD k 0) && decide (b.clock.getD k 0<=30) && (!((k:Int)==b.o) || (b.clock.getD k 0==b.s - 1))
def clkTo(b:Bt):Nat->Bool
 | 0=>true
 | k+1=>clkTo b k && cOk b k
def clkOk(b:Bt):Bool:=clkTo b b.clock.length
def refOk(b:Bt)(i:Int)(d:Dt)(use:Int):Bool:=if noneD d then !(use==2) else !(use==0) && cov b d i
def isOp(op:Int):Bool:=decide (1<=op) && decide (op<=6)
def effOk(b:Bt)(i:Int)(e:Ef):Bool:=
 isOp e.op && (decide (0<=e.ob) && decide (e.ob<=7) && (e.ob % 4==rKind e.op)) && (decide (rLeast e.op<=e.va) && decide (e.va<=rGreat e.op)) &&
 refOk b i e.ref (rRef e.op) && (decide (rLeastD e.op<=e.dots.length) && decide ((e.dots.length:Int)<=rMostD e.op)) && dotsOk b i e.dots
def effsTo(b:Bt):Nat->Bool
 | 0=>true
 | k+1=>effsTo b k && effOk b k (b.effs.getD k ⟨0,0,0,⟨0,0,0⟩, []⟩)
def headOk(b:Bt):Bool:=
 (decide (2<=b.clock.length) && decide (b.clock.length<=4)) && (decide (0<=b.o) && decide (b.o<=(b.clock.length:Int) - 1)) && (decide (1<=b.s) && decide (b.s<=30)) &&
 (decide (1<=b.t) && decide (b.t<=200)) && (decide (1<=b.effs.length) && decide (b.effs.length<=5)) && clkOk b
def isB(b:Bt):Bool:=headOk b && effsTo b b.effs.length
theorem zoj(b:Bt):∀n k,k<n->clkTo b n=true->cOk b k=true
 | n+1,k,hk,h=>by
  rw [clkTo,Bool.and_eq_true] at h
  rcases Nat.lt_succ_iff_lt_or_eq.1 hk with hk | rfl
  ·exact zoj b n k hk h.1
  ·exact h.2
theorem head_clock(b:Bt)(h:headOk b=true):b.clock.length<=4∧0<=b.o∧b.o<b.clock.length∧1<=b.s∧b.clock.getD b.o.toNat 0=b.s - 1:=by
 simp only [headOk,Bool.and_eq_true,decide_eq_true_eq] at h
 obtain⟨⟨⟨⟨⟨h1,h2⟩,h3⟩,_⟩,_⟩,h4⟩:=h
 have hc:=zoj b b.clock.length b.o.toNat (by omega) h4
 simp only [cOk,Bool.and_eq_true,Bool.or_eq_true,Bool.not_eq_true',beq_eq_false_iff_ne,beq_iff_eq] at hc
 refine⟨h1.2,h2.1,by omega,h3.1, ?_⟩
 rcases hc.2 with hx | hx
 ·exact absurd (by omega) hx
 ·exact hx
theorem clkTo_no(b:Bt):∀n k,k<n->cOk b k=false->clkTo b n=false
 | n+1,k,hk,h=>by
  rw [clkTo]
  rcases Nat.lt_succ_iff_lt_or_eq.1 hk with hk | rfl
  ·rw [clkTo_no b n k hk h];rfl
  ·rw [h];simp
theorem dotsTo_no(b:Bt)(i:Int)(ds:List Dt):∀n k,k<n->dOk b i ds k=false->dotsTo b i ds n=false
 | n+1,k,hk,h=>by
  rw [dotsTo]
  rcases Nat.lt_succ_iff_lt_or_eq.1 hk with hk | rfl
  ·rw [dotsTo_no b i ds n k hk h];rfl
  ·rw [h];simp
theorem effsTo_no(b:Bt):∀n k:Nat,k<n->effOk b k (b.effs.getD k ⟨0,0,0,⟨0,0,0⟩, []⟩)=false->effsTo b n=false
 | n+1,k,hk,h=>by
  rw [effsTo]
  rcases Nat.lt_succ_iff_lt_or_eq.1 hk with hk | rfl
  ·rw [effsTo_no b n k hk h];rfl
  ·rw [h];simp
def hd4(b:Bt):List UInt8:=be1 b.o++be1 b.s++be1 b.t++be1 b.clock.length
def headB(b:Bt):List UInt8:=hd4 b++b.clock.flatMap be1++be1 b.effs.length
def dotB(d:Dt):List UInt8:=be1 d.o++be1 d.s++be1 d.i
def effB(e:Ef):List UInt8:=
 be1 e.op++be1 e.ob++be2 e.va++(if rRef e.op=0 then [] else dotB e.ref)++(if 0<rMostD e.op then be1 e.dots.length++e.dots.flatMap dotB else [])
def contentB(b:Bt):List UInt8:=headB b++b.effs.flatMap effB
def bodyB(b:Bt):List UInt8:=be2 ((contentB b).length+6)++contentB b
def frameB(b:Bt):List UInt8:=bodyB b++be4 (sum (bodyB b))
theorem be1_len(n:Int):(be1 n).length=1:=rfl
theorem flat1_len(zs:List Int):(zs.flatMap be1).length=zs.length:=by
 induction zs with
 | nil=>rfl
 | cons z zs ih=>simp [List.flatMap_cons,be1_len,ih];omega
theorem dotB_len(d:Dt):(dotB d).length=3:=rfl
theorem dots_len(ds:List Dt):(ds.flatMap dotB).length=3*ds.length:=by
 induction ds with
 | nil=>rfl
 | cons z zs ih=>simp [List.flatMap_cons,dotB_len,ih];omega
theorem take_flat{α:Type}(f:α->List UInt8)(l:List α)(k:Nat)(h:k<l.length):(l.take (k+1)).flatMap f=(l.take k).flatMap f++f l[k]:=by
 rw [List.take_succ_eq_append_getElem h,List.flatMap_append];simp
theorem effB_len(e:Ef)(h:e.dots.length<=150):(effB e).length<=500:=by
 have:=dots_len e.dots
 unfold effB
 simp only [List.length_append,be1_len]
 have h2:(be2 e.va).length=2:=rfl
 split<;>split<;>simp only [List.length_append,List.length_nil,dotB_len,be1_len,dots_len]<;>omega
abbrev St:=Option Nat
def one(s:List UInt8):St->Int
 | some k=>if k<s.length then((s.getD k 0).toNat:Int) else 0
 | none=>0
def nxt(s:List UInt8):St->St
 | some k=>if k<s.length then some (k+1) else none
 | none=>none
def nxt2(s:List UInt8)(q:St):St:=nxt s (nxt s q)
def two(p:Bool)(s:List UInt8)(q:St):Int:=if !p && (nxt2 s q).isNone then 0 else 256*one s q+one s (nxt s q)
def run{α:Type}(F:St->α×St):Nat->St->List α×St
 | 0,q=>([],q)
 | n+1,q=>((run F n q).1++ [(F (run F n q).2).1],(F (run F n q).2).2)
theorem zi8(b:Bt):∀(n k:Nat),k<n->effsTo b n=true->effOk b k (b.effs.getD k ⟨0,0,0,⟨0,0,0⟩, []⟩)=true
 | n+1,k,hk,h=>by
  rw [effsTo,Bool.and_eq_true] at h
  rcases Nat.lt_succ_iff_lt_or_eq.1 hk with hk | rfl
  ·exact zi8 b n k hk h.1
  ·exact h.2
def body(s:List UInt8):List UInt8:=s.take (s.length - 4)
def num2(s:List UInt8):Int:=256*(s.getD 0 0).toNat+(s.getD 1 0).toNat
def byteI(n:Int):Prop:=0<=n∧n<=255
def byteD(d:Dt):Prop:=byteI d.o∧byteI d.s∧byteI d.i
structure WrE(e:Ef):Prop where
 op:1<=e.op∧e.op<=6
 ob:byteI e.ob
 va: -1000<=e.va∧e.va<=1000
 ref0:rRef e.op=0->e.ref=⟨0,0,0⟩
 ref:byteD e.ref
 dots0:¬0<rMostD e.op->e.dots= []
 dots:∀d∈e.dots,byteD d
 len:e.dots.length<=150
theorem zyf{b:Bt}(h:isB b=true):(contentB b).length<=2600:=by
 have h':=h
 simp only [isB,Bool.and_eq_true] at h'
 have hH:=h'.1
 simp only [headOk,Bool.and_eq_true,decide_eq_true_eq] at hH
 have hd:∀e∈b.effs,(effB e).length<=500:=by
  intro e he
  obtain⟨k,hk,rfl⟩:=List.mem_iff_getElem.1 he
  have:=zi8 b b.effs.length k hk h'.2
  rw [show b.effs.getD k ⟨0,0,0,⟨0,0,0⟩, []⟩=b.effs[k] by simp [hk]] at this
  simp only [effOk,Bool.and_eq_true,decide_eq_true_eq] at this
  have h3:=this.1.2.2
  have:rMostD b.effs[k].op<=150:=by unfold rMostD;repeat' split<;>omega
  exact effB_len _ (by omega)
 have hl:∀l:List Ef,(∀e∈l,(effB e).length<=500)->(l.flatMap effB).length<=500*l.length:=by
  intro l
  induction l with
  | nil=>intro _;simp
  | cons x l ih=>
   intro hx
   have h1:=hx x (by simp)
   have h2:=ih (fun y hy=>hx y (by simp [hy]))
   simp only [List.flatMap_cons,List.length_append,List.length_cons]
   omega
 have:=hl b.effs hd
 have h5:=flat1_len b.clock
 have:(hd4 b).length=4:=rfl
 simp only [contentB,headB,List.length_append,be1_len]
 omega
theorem frame_len(b:Bt)(h:isB b=true):(frameB b).length=(contentB b).length+6∧num2 (frameB b)=(frameB b).length∧(contentB b).length<=2600∧9<=(contentB b).length:=by
 have hl:=zyf h
 have h2:(be2 ((contentB b).length+6)).length=2:=rfl
 have h4:(be4 (sum (bodyB b):Nat)).length=4:=rfl
 have hfl:(frameB b).length=(contentB b).length+6:=by unfold frameB bodyB;rw [List.length_append,List.length_append,h2];show 2+_+4=_;omega
 refine⟨hfl, ?_,hl, ?_⟩
 ·have e:frameB b=UInt8.ofNat (((contentB b).length+6:Int) / 256 % 256).toNat::UInt8.ofNat (((contentB b).length+6:Int) % 256).toNat::(contentB b++be4 (sum (bodyB b):Nat)):=by
   simp [frameB,bodyB,be2]
  have e1:=ofNat_toNat (((contentB b).length+6:Int) / 256)
  have e2:=ofNat_toNat ((contentB b).length+6:Int)
  rw [hfl,e]
  simp only [num2,List.getD_cons_zero,List.getD_cons_succ]
  omega
 ·have h':=h
  simp only [isB,Bool.and_eq_true] at h'
  have hH:=h'.1
  simp only [headOk,Bool.and_eq_true,decide_eq_true_eq] at hH
  have h5:=flat1_len b.clock
  have h6:(hd4 b).length=4:=rfl
  have h7:2<=(b.effs.flatMap effB).length:=by
   cases he:b.effs with
   | nil=>rw [he] at hH;simp at hH
   | cons x l=>
    rw [List.flatMap_cons,List.length_append]
    have:4<=(effB x).length:=by
     have h2:(be2 x.va).length=2:=rfl
     simp only [effB,List.length_append,be1_len,h2]
     omega
    omega
  simp only [contentB,headB,List.length_append,be1_len]
  omega
def pk(c n:Int):Int:=(if c<0 then -(c+1) else c) % n
end Go.Proofs.YtfmcngncaffloaaGreatDoor.Wv
