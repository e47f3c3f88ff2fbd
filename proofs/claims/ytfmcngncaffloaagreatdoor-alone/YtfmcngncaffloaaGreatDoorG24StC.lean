import Derived.Test.YtfmcngncaffloaaGreatDoorG23RpV
set_option maxHeartbeats 1600000
namespace Go.Proofs.YtfmcngncaffloaaGreatDoor
open Go.RowKit
set_option maxRecDepth 100000
theorem zkw{b:Wv.Bt}(h:Wv.isB b=true):b.clock.length<=4∧0<=b.o∧b.o<b.clock.length∧1<=b.s∧b.s<=30∧1<=b.t∧b.t<=200∧b.effs.length<=5:=by
 simp only [Wv.isB,Wv.headOk,Bool.and_eq_true,decide_eq_true_eq] at h
 obtain⟨⟨⟨⟨⟨⟨h1,h2⟩,h3⟩,h4⟩,h5⟩,_⟩,_⟩:=h
 exact⟨h1.2,h2.1,by omega,h3.1,h3.2,h4.1,h4.2,h5.2⟩
theorem zxb{b:Wv.Bt}(h:Wv.isB b=true):∀e∈b.effs,0<=e.ob∧e.ob<8∧ -1000<=e.va∧e.va<=1000∧e.dots.length<=1048576:=by
 intro e he
 obtain⟨k,hk,rfl⟩:=List.mem_iff_getElem.1 he
 simp only [Wv.isB,Bool.and_eq_true] at h
 have h:=zhc b b.effs.length k hk h.2
 have e:b.effs.getD k ⟨0,0,0,⟨0,0,0⟩, []⟩=b.effs[k]:=by simp [hk]
 rw [e] at h
 simp only [Wv.effOk,Wv.isOp,Bool.and_eq_true,decide_eq_true_eq] at h
 obtain⟨⟨⟨⟨⟨_,h2⟩,h3⟩,_⟩,h5⟩,_⟩:=h
 have a1: -1000<=Wv.rLeast b.effs[k].op:=by unfold Wv.rLeast;split<;>omega
 have a2:Wv.rGreat b.effs[k].op<=1000:=by unfold Wv.rGreat;repeat' split<;>omega
 have a3:Wv.rMostD b.effs[k].op<=150:=by unfold Wv.rMostD;repeat' split<;>omega
 exact⟨h2.1.1,by omega,by omega,by omega,by omega⟩
def sumN:List Int->Nat
 | []=>0
 | z::l=>z.toNat+sumN l
theorem zke(n:Nat):∀l:List Int,(∀z∈l,0<=z∧z<=n)->sumN l<=n*l.length
 | [],_=>by simp [sumN]
 | z::l,h=>by
  have h1:=h z (by simp)
  have:=zke n l (fun y hy=>h y (by simp [hy]))
  simp only [sumN,List.length_cons,Nat.mul_succ]
  omega
theorem zmo:∀(l:List Int) (k:Nat) (z:Int),k<l.length->0<=l.getD k 0->z=l.getD k 0+1->sumN (l.set k z)=sumN l+1
 | y::l,0,z,_,h0,hz=>by
  simp only [List.set_cons_zero,sumN]
  simp at h0 hz
  omega
 | y::l,k+1,z,hk,h0,hz=>by
  simp only [List.set_cons_succ,sumN]
  have:=zmo l k z (by simpa using hk) (by simpa using h0) (by simpa using hz)
  omega
structure Rok(R:Rp):Prop where
 obs8:R.obs.length=8
 bd:∀o∈R.obs,o.bound (5*sumN R.clock)
 logl:R.log.length<=70000*sumN R.clock
 len:R.clock.length<=4
 clk:∀z∈R.clock,0<=z∧z<=30
 held:∀b∈R.held,Wv.isB b=true
 most:R.held.length<=6
 time0:0<=R.time
 time1:R.time<=200
theorem zey{b:Wv.Bt}(hb:Wv.isB b=true):(Wv.frameB b).length<=70000:=by have:=Wv.frame_len b hb;omega
theorem Rok.sum{R:Rp}(h:Rok R):sumN R.clock<=120:=by
 have:=zke 30 R.clock (fun z hz=>⟨(h.clk z hz).1,by have:=(h.clk z hz).2;omega⟩)
 have:=h.len
 omega
theorem zy1{l:List Int}{P:Int->Prop}(h:∀z∈l,P z)(h0:P 0)(k:Nat):P (l.getD k 0):=by
 by_cases hk:k<l.length
 ·have:l.getD k 0=l[k]:=by simp [hk]
  rw [this];exact h _ (List.getElem_mem _)
 ·have:l.getD k 0=0:=by simp [hk]
  rw [this];exact h0
theorem Rok.getD{R:Rp}(h:Rok R)(k:Nat):0<=R.clock.getD k 0∧R.clock.getD k 0<=30:=zy1 (P:=fun z=>0<=z∧z<=30) h.clk ⟨by omega,by omega⟩ k
theorem zom(b:Wv.Bt)(obs:List Ob)(N:Nat)(hbd:∀o∈obs,o.bound N)(hval:∀e∈b.effs,0<=e.ob∧e.ob<8∧ -1000<=e.va∧e.va<=1000∧e.dots.length<=1048576):∀k,k<=b.effs.length->∀o∈obsTo b obs k,o.bound (N+k):=by
 intro k
 induction k with
 | zero=>intro _;exact hbd
 | succ k ih=>
  intro hk
  have hq:b.effs[k]?=some b.effs[k]:=List.getElem?_eq_getElem (by omega)
  rw [obsTo,hq]
  obtain⟨_,_,h1,h2,_⟩:=hval _ (List.getElem_mem (by omega:k<b.effs.length))
  exact zjk _ _ (ih (by omega)) h1 h2
theorem zun{cl:List Int}{b:Wv.Bt}(h:dueB cl b=true):b.clock.length=cl.length∧(∀j,j<b.clock.length->b.clock.getD j 0<=cl.getD j 0)∧b.s=cl.getD b.o.toNat 0+1:=by
 simp only [dueB,Bool.and_eq_true,decide_eq_true_eq,List.all_eq_true,List.mem_range] at h
 exact⟨h.1.1,h.1.2,h.2⟩
theorem Rok.deliver{R:Rp}{b:Wv.Bt}{fr:List UInt8}{hs:List Wv.Bt}(h:Rok R)(hb:Wv.isB b=true)(hf:fr.length<=70000)(hd:dueB R.clock b=true)(hh:∀x∈hs,Wv.isB x=true)(hl:hs.length<=6):Rok (zch R b fr hs):=by
 obtain⟨p1,p2,p3,p4,p5,p6,p7,p8⟩:=zkw hb
 obtain⟨d1,_,d3⟩:=zun hd
 have hk:b.o.toNat<R.clock.length:=by omega
 have hs1:sumN (R.clock.set b.o.toNat b.s)=sumN R.clock+1:=zmo _ _ _ hk (h.getD _).1 d3
 have h1:=h.logl
 have h2:=h.time0
 have h3:=h.time1
 refine⟨(zkp _ _ _).trans h.obs8,fun o ho=> ?_, ?_,by show(R.clock.set _ _).length<=4;rw [List.length_set];exact h.len,fun z hz=> ?_,hh,hl, ?_, ?_⟩
 ·show o.bound (5*sumN (R.clock.set b.o.toNat b.s))
  rw [hs1]
  exact Ob.bound_mono (zom b R.obs _ h.bd (zxb hb) _ (Nat.le_refl _) o ho) (by omega)
 ·show(R.log++fr).length<=70000*sumN (R.clock.set b.o.toNat b.s)
  rw [hs1,List.length_append]
  omega
 ·rcases List.mem_or_eq_of_mem_set hz with hz | hz
  ·exact h.clk z hz
  ·omega
 ·show 0<=max R.time b.t;omega
 ·show max R.time b.t<=200;omega
def zrz:Nat->Rp->List Bm->Rp×List Bm
 | 0,R,hs=>(R,hs)
 | n+1,R,hs=>match takeP lessM (fun m=>dueB R.clock m.b) hs with
  | (none,l)=>({R with held:=l.map (·.b)},l)
  | (some x,l)=>zrz n (zch R x.b (Wv.frameB x.b) ((takeP lessM (fun m=>likeB x.b m.b) l).2.map (·.b))) (takeP lessM (fun m=>likeB x.b m.b) l).2
section
variable {α β : Type} (g : α -> β) (less : α -> α -> Bool) (less' : β -> β -> Bool)
theorem zie(hl:∀x y,less x y=less' (g x) (g y))(bs:List α)(l c:Nat):updP less' (bs.map g) l c=updP less bs l c:=by
 unfold updP
 simp only [List.getElem?_map]
 cases bs[c]?<;>cases bs[l]?<;>simp [hl]
theorem zpz(hl:∀x y,less x y=less' (g x) (g y))(bs:List α)(i:Nat):za2 less' (bs.map g) i=za2 less bs i:=by
 unfold za2
 rw [zie g less less' hl,zie g less less' hl]
theorem zkd(bs:List α)(i j:Nat):swapP (bs.map g) i j=(swapP bs i j).map g:=by
 unfold swapP
 simp only [List.getElem?_map]
 cases bs[i]?<;>cases bs[j]?<;>simp [List.map_set]
theorem zsw(hl:∀x y,less x y=less' (g x) (g y))(bs:List α)(i:Nat):sinkP less' (bs.map g) i=(sinkP less bs i).map g:=by
 induction hn:bs.length - i using Nat.strongRecOn generalizing bs i with
 | _ n ih=>
  rw [sinkP.eq_def less' (bs.map g) i,sinkP.eq_def less bs i]
  rw [zpz g less less' hl,List.length_map]
  split
  ·rename_i hq
   have h1:=zeh less bs i
   have h2:=zeg less bs i hq.2
   have h3:=hq.1
   rw [zkd]
   exact ih (bs.length - za2 less bs i) (by omega) (swapP bs i (za2 less bs i)) (za2 less bs i) (by rw [zbk])
  ·rfl
theorem ztb(hl:∀x y,less x y=less' (g x) (g y))(bs:List α)(i:Nat):riseP less' (bs.map g) i=(riseP less bs i).map g:=by
 induction i using Nat.strongRecOn generalizing bs with
 | _ i ih=>
  rw [riseP.eq_def less' (bs.map g) i,riseP.eq_def less bs i,zie g less less' hl]
  split
  ·rw [zkd]
   exact ih ((i - 1) / 2) (by omega) _
  ·rfl
theorem zth(hl:∀x y,less x y=less' (g x) (g y))(bs:List α)(x:α):pushP less' (bs.map g) (g x)=(pushP less bs x).map g:=by
 unfold pushP
 rw [←ztb g less less' hl]
 simp
theorem zm2(hl:∀x y,less x y=less' (g x) (g y))(os:List α):∀l:List α,(os.map g).foldl (pushP less') (l.map g)=(os.foldl (pushP less) l).map g:=by
 induction os with
 | nil=>intro l;rfl
 | cons x os ih=>
  intro l
  simp only [List.map_cons,List.foldl_cons]
  rw [zth g less less' hl,ih]
theorem zwd(hl:∀x y,less x y=less' (g x) (g y))(bs:List α):popP less' (bs.map g)=(popP less bs).map fun p=>(g p.1,p.2.map g):=by
 cases bs with
 | nil=>rfl
 | cons x l=>
  simp only [popP,List.map_cons,Option.map_some,Option.some.injEq,Prod.mk.injEq,true_and]
  rw [←zsw g less less' hl]
  have e:∀(n:Nat) (h1:n<(g x::l.map g).length) (h2:n<(x::l).length),(g x::l.map g)[n]=g ((x::l)[n]):=by intro n h1 h2;cases n<;>simp
  have e2:=e (l.map g).length (by simp) (by simp)
  rw [e2]
  simp [List.map_take]
theorem zpl(hl:∀x y,less x y=less' (g x) (g y))(f:α->Bool)(f':β->Bool)(hf:∀x,f x=f' (g x))(n:Nat):∀bs os:List α,zba less' f' n (bs.map g) (os.map g)=((zba less f n bs os).1.map g,(zba less f n bs os).2.1.map g,(zba less f n bs os).2.2.map g):=by
 induction n with
 | zero=>intro bs os;rfl
 | succ n ih=>
  intro bs os
  rw [zba,zba,zwd g less less' hl]
  cases popP less bs with
  | none=>rfl
  | some p=>
   obtain⟨x,l⟩:=p
   simp only [Option.map_some]
   rw [←hf]
   split
   ·rfl
   ·rw [←ih l (os++ [x])]
    simp
theorem zsn(hl:∀x y,less x y=less' (g x) (g y))(f:α->Bool)(f':β->Bool)(hf:∀x,f x=f' (g x))(bs:List α):takeP less' f' (bs.map g)=((takeP less f bs).1.map g,(takeP less f bs).2.map g):=by
 unfold takeP
 have h:=zpl g less less' hl f f' hf (bs.length+1) bs []
 simp only [List.map_nil] at h
 simp only [List.length_map]
 rw [h]
 simp only [Prod.mk.injEq,true_and]
 exact zm2 g less less' hl _ _
end
theorem zso(f:Wv.Bt->Bool)(hs:List Bm):takeP zbd f (hs.map (·.b))=((takeP lessM (fun m=>f m.b) hs).1.map (·.b),(takeP lessM (fun m=>f m.b) hs).2.map (·.b)):=
 zsn (·.b) lessM zbd (fun _ _=>rfl) _ f (fun _=>rfl) hs
def stepH(n:Nat)(R:Rp)(r:Option Bm)(l:List Bm):Rp×List Bm:=match r with
 | none=>({R with held:=l.map (·.b)},l)
 | some x=>zrz n (zch R x.b (Wv.frameB x.b) ((takeP lessM (fun m=>likeB x.b m.b) l).2.map (·.b))) (takeP lessM (fun m=>likeB x.b m.b) l).2
structure DhAt(w wr:World)(own own':Clr)(c p:Nat)(R:Rp)(cg cc hp:Nat)(mv hv ev:Value)(l:List Bm)(es:List Em):Prop where
 rp:RpIn wr own' c p R cg cc hp mv hv ev l es
 ext:Ext own own' w.heap.size
 tch:TchR own c w wr
structure DhSt(w w0 wX:World)(own own':Clr)(c p:Nat)(R:Rp)(cg cc hp:Nat)(mv hv ev:Value)(l:List Bm)(es:List Em)(r:Option Bm)(n bb:Nat)(eb ef:Addr)(F:Rp×List Bm):Prop where
 d:DhAt w wX own own' c p R cg cc hp mv hv ev l es
 ans:F=stepH n R r l
 ok:Rok R
 cnt:l.length+r.toList.length<=n
 due:∀x,r=some x->dueB R.clock x.b=true∧Wv.isB x.b=true∧BatIn wX own' x
 box:Blk wX bb (bmC (r.getD bmZ)) 124
 boxc:¬(c<=own' bb∧own' bb<=c+10)
 env:Env w0 wX own' eb ef
def ROk(w:World)(own:Clr)(c p:Nat)(R:Rp)(w':World):Prop:=∃own',Ext own own' w.heap.size∧RpAt w' own' c p R∧Tch (fun k=>c<=own k∧own k<=c+10) w w'
theorem ROk.del{w w':World}{own:Clr}{c p:Nat}{R:Rp}{cg cc hp:Nat}{mv ev:Value}{hs:List Bm}{es:List Em}(h:DelOk w own c p R cg cc hp mv ev hs es w'):ROk w own c p R w':=by
 obtain⟨own',hv',hE,hR,hT⟩:=h
 exact⟨own',hE,⟨_,_,_,_,_,_,_,_,hR⟩,hT.mono (fun k _ h=>⟨h.1,by omega⟩)⟩
theorem ROk.self{w w':World}{own:Clr}{c p:Nat}{R:Rp}{cg cc hp:Nat}{mv hv ev:Value}{hs:List Bm}{es:List Em}(ho:own p=c)(h:zds w own c p R cg cc hp mv hv ev hs es w'):ROk w own c p R w':=
 ⟨own,Ext.refl _ _,⟨_,_,_,_,_,_,_,_,h.1⟩,h.2.mono (fun k _ e=>by rw [e,ho];omega)⟩
theorem ROk.add{w w':World}{own:Clr}{c p:Nat}{R:Rp}{cg cc hp:Nat}{mv hv:Value}{hs:List Bm}{es:List Em}(h:AddOk w own c p R cg cc hp mv hv hs es w'):ROk w own c p R w':=by
 obtain⟨own',ev',hE,hR,hT⟩:=h
 exact⟨own',hE,⟨_,_,_,_,_,_,_,_,hR⟩,hT.mono (fun k _ h=>by rcases h with h | h<;>omega)⟩
theorem ROk.cm{w w':World}{own:Clr}{c p:Nat}{R:Rp}{cg cc hp:Nat}{mv:Value}{hs:List Bm}(h:CmOk w own c p R cg cc hp mv hs w'):ROk w own c p R w':=by
 obtain⟨own',hv',hE,hR,hT⟩:=h
 exact⟨own',hE,⟨_,_,_,_,_,_,_,_,hR⟩,hT.mono (fun k _ h=>⟨h.1,by omega⟩)⟩
theorem zyt{w':World}{own:Clr}{base:Nat}{e:TypeId}{z n m c:Nat}{a:Option Addr}{xs:List Value}(h:w'.ownsRow base e z (.slice a m c) n xs):At0 w' (newTo own base 0) a xs:=by
 intro j u hj
 rcases h.2 with⟨_,hn⟩ | ⟨g,cap,cur,e1,hb,_⟩
 ·have h1:=h.1
  rw [hn,Nat.zero_mul] at h1
  rw [List.eq_nil_of_length_eq_zero h1] at hj
  simp at hj
 ·cases e1
  have hc:=h.cells (g:=g) rfl j u hj
  rw [Addr.add_lit] at hc
  exact⟨g,0,rfl,zae _ _ _ _ hb,hc⟩
structure TfAt(w w0 wr:World)(own own':Clr)(c p:Nat)(R:Rp)(cg cc hp:Nat)(mv hv ev:Value)(hs:List Bm)(es:List Em)(x:Bm)(bb:Nat)(eb ef:Addr):Prop where
 rp:RpIn wr own' c p R cg cc hp mv hv ev hs es
 bat:BatIn wr own' x
 box:Blk wr bb (bmC x) 124
 boxc:own' bb=0
 ext:Ext own own' w.heap.size
 bel:Below w.heap.size w wr
 env:Env w0 wr own' eb ef
theorem zz7(w:World):(Instr.makeMap 185 none).run Tryz.prog w= .ok (.map (some w.heap.size)) (w.alloc (.map #[] 0)):=by
 simp [Instr.makeMap]
theorem zz6(w:World):(Instr.makeMap 120 none).run Tryz.prog w= .ok (.map (some w.heap.size)) (w.alloc (.map #[] 0)):=by
 simp [Instr.makeMap]
theorem mkslI(n:Nat)(hn:n<=4)(w:World):(Instr.makeSlice 34 (I n) (I n)).run Tryz.prog w= .ok (.slice (some ⟨w.heap.size,0,none⟩) n n) (w.alloc (.cells (List.replicate n (I 0)).toArray 3)):=by
 obtain⟨i,h1,h2,h3,h4⟩:=info_parts zev
 have h:=run_makeSlice (P:=Tryz.prog) (w:=w) _ _ i _ Tryz.underlying34 h1 h2 .i64 .i64 (n:Int) (n:Int) (by omega) (Int.le_refl _) (by rw [h3];omega) (by rw [h4];omega) (by omega)
 rw [h,h3]
 have e:Go.madeCells (Value.cells (.int .i64 0)) ((n:Int).toNat*1)=(List.replicate n (I 0)).toArray:=by
  rw [Int.toNat_natCast,Nat.mul_one]
  apply Array.ext
  ·simp [Go.madeCells]
  ·intro j h1 h2
   simp [Go.madeCells,Value.cells,Nat.mod_one]
 rw [e]
 simp
def newOb(k:Int):Ob:=if k=0 then .counter 0 else if k=1 then .set [] else if k=2 then .reg [] else .list []
def NewOk(w:World)(own:Clr)(d:Nat)(o:Ob)(e:Ending)(w':World):Prop:=∃v,e= .returned v∧Below w.heap.size w w'∧ObAt w' (newTo own w.heap.size d) d v o
theorem zwo(own:Clr)(d:Nat)(k:Int)(w:World):
  Calls Tryz.prog 63 #[I k] w fun e w'=>NewOk w own d (newOb k) e w':=by
 obtain⟨o,HO⟩:∃o,Hid (newOb k=o):=⟨_,rfl⟩
 rw [HO.out]
 have hmm:=fun W=>zz7 W
 go_enter Tryz.func63,Tryz.ntmps63
 by_cases h0:k=0
 ·subst h0
  go_wp2
  go_ret
  rw [←HO.out]
  exact⟨_,rfl,(Below.refl _ _).alloc (Nat.le_refl _) _,_,rfl,zae _ _ _ _ (Nat.le_refl _),heap_alloc_new w _⟩
 ·by_cases h1:k=1
  ·subst h1
   go_wp2
   go_ret
   rw [←HO.out]
   refine⟨_,rfl,((Below.refl _ _).alloc (Nat.le_refl _) _).alloc (by simp) _,_,w.heap.size,rfl,zae _ _ _ _ (by simp),zae _ _ _ _ (Nat.le_refl _), ?_, ?_⟩
   ·have:=heap_alloc_new (w.alloc (.map #[] 0)) (.cells #[.map (some w.heap.size)] 187)
    rw [World.size_alloc] at this
    exact this
   ·exact(MpAt.new w).same (Below.heap_alloc _ _ _ (by simp))
  ·by_cases h2:k=2
   ·subst h2
    go_wp2
    go_ret
    rw [←HO.out]
    refine⟨_,rfl,((Below.refl _ _).alloc (Nat.le_refl _) _).alloc (by simp) _,_,w.heap.size,rfl,zae _ _ _ _ (by simp),zae _ _ _ _ (Nat.le_refl _), ?_, ?_⟩
    ·have:=heap_alloc_new (w.alloc (.map #[] 0)) (.cells #[.map (some w.heap.size)] 189)
     rw [World.size_alloc] at this
     exact this
    ·exact(MpAt.new w).same (Below.heap_alloc _ _ _ (by simp))
   ·have HO2:Hid (o= .list []):=by show _=_;rw [←HO.out];simp [newOb,h0,h1,h2]
    have b0:(k==0)=false:=by simp [h0]
    have b1:(k==1)=false:=by simp [h1]
    have b2:(k==2)=false:=by simp [h2]
    clear h0 h1 h2
    go_wp2
    go_ret
    rw [HO2.out]
    exact⟨_,rfl,(Below.refl _ _).alloc (Nat.le_refl _) _,_, .slice none 0 0,rfl,zae _ _ _ _ (Nat.le_refl _),fun g e=>(by simp [Value.ownBlock] at e),heap_alloc_new w _,⟨rfl, .inl ⟨rfl,rfl⟩⟩,Nat.zero_le _⟩
def newR(i n:Nat):Rp:=⟨i,0,List.replicate n 0,0, [.counter 0, .set [], .reg [], .list [], .counter 0, .set [], .reg [], .list []], [],0, [], []⟩
theorem zy0(w:World):
  Calls Tryz.prog 61 #[.func (.func 62) #[] #[]] w fun e w'=>e= .returned (.pointer (some ⟨w.heap.size,0,none⟩))∧w'=w.alloc (.cells #[.slice none 0 0, .func (.func 62) #[] #[]] 178):=by
 go_enter Tryz.func61,Tryz.ntmps61
 go_wp2
 go_ret
 exact⟨rfl,rfl⟩
structure NwAt(w wr:World)(p cg mb hp i n:Nat):Prop where
 bel:Below w.heap.size w wr
 blk:Blk wr p #[I i,I 0, .slice (some ⟨cg,0,none⟩) n n,I 0, .map (some mb), .string ⟨#[]⟩,I 0, .pointer (some ⟨hp,0,none⟩), .slice none 0 0] 130
 clk:Blk wr cg (Array.replicate n (I 0)) 3
 om:OmAt wr mb []
 hpx:HpIn wr hp (.slice none 0 0) []
 lp:w.heap.size<=p
 lc:w.heap.size<=cg
 lm:w.heap.size<=mb
 lh:w.heap.size<=hp
theorem al4_1(w:World)(o1 o2 o3 o4:Obj):((((w.alloc o1).alloc o2).alloc o3).alloc o4).drew.heap[w.heap.size]?=some o1:=by
 show((((w.alloc o1).alloc o2).alloc o3).alloc o4).heap[w.heap.size]?=some o1
 rw [Below.heap_alloc _ _ _ (by simp<;>omega),Below.heap_alloc _ _ _ (by simp<;>omega),Below.heap_alloc _ _ _ (by simp)]
 exact(MapKept.heap_alloc w _).1
theorem al4_2(w:World)(o1 o2 o3 o4:Obj):((((w.alloc o1).alloc o2).alloc o3).alloc o4).drew.heap[w.heap.size+1]?=some o2:=by
 show((((w.alloc o1).alloc o2).alloc o3).alloc o4).heap[w.heap.size+1]?=some o2
 rw [Below.heap_alloc _ _ _ (by simp<;>omega),Below.heap_alloc _ _ _ (by simp)]
 have:=(MapKept.heap_alloc (w.alloc o1) o2).1
 rw [World.size_alloc] at this
 exact this
theorem al4_3(w:World)(o1 o2 o3 o4:Obj):((((w.alloc o1).alloc o2).alloc o3).alloc o4).drew.heap[w.heap.size+1+1]?=some o3:=by
 show((((w.alloc o1).alloc o2).alloc o3).alloc o4).heap[w.heap.size+1+1]?=some o3
 rw [Below.heap_alloc _ _ _ (by simp)]
 have:=(MapKept.heap_alloc ((w.alloc o1).alloc o2) o3).1
 rw [World.size_alloc,World.size_alloc] at this
 exact this
theorem al4_4(w:World)(o1 o2 o3 o4:Obj):((((w.alloc o1).alloc o2).alloc o3).alloc o4).drew.heap[w.heap.size+1+1+1]?=some o4:=by
 show((((w.alloc o1).alloc o2).alloc o3).alloc o4).heap[w.heap.size+1+1+1]?=some o4
 have:=(MapKept.heap_alloc (((w.alloc o1).alloc o2).alloc o3) o4).1
 rw [World.size_alloc,World.size_alloc,World.size_alloc] at this
 exact this
theorem zz0(w:World)(o1 o2 o3:Obj)(cg mb hp i n:Nat)(W:World)(hW:W=((((w.alloc o1).alloc o2).alloc o3).alloc (.cells #[I i,I 0, .slice (some ⟨cg,0,none⟩) n n,I 0, .map (some mb), .string ⟨#[]⟩,I 0, .pointer (some ⟨hp,0,none⟩), .slice none 0 0] 130)).drew)
  (hc:W.heap[cg]?=some (.cells (Array.replicate n (I 0)) 3 (0,0))) (hm:W.heap[mb]?=some (.map #[] 0)) (hh:W.heap[hp]?=some (.cells #[.slice none 0 0, .func (.func 62) #[] #[]] 178 (0,0))) (lc:w.heap.size<=cg) (lm:w.heap.size<=mb) (lh:w.heap.size<=hp):
  NwAt w W (w.heap.size+1+1+1) cg mb hp i n:=by
 refine⟨?_, ?_,hc,⟨#[],0,hm,rfl⟩,⟨hh,⟨rfl, .inl ⟨rfl,rfl⟩⟩⟩,by omega,lc,lm,lh⟩
 ·rw [hW]
  exact(((((Below.refl w.heap.size w).alloc (Nat.le_refl _) _).alloc (by simp) _).alloc (by simp<;>omega) _).alloc (by simp<;>omega) _).drew
 ·rw [hW]
  exact al4_4 w o1 o2 o3 _
structure NlAt(w wr:World)(own own':Clr)(c p cg mb hp i n:Nat)(vs:List Value):Prop where
 bel:Below w.heap.size w wr
 blk:Blk wr p #[I i,I 0, .slice (some ⟨cg,0,none⟩) n n,I 0, .map (some mb), .string ⟨#[]⟩,I 0, .pointer (some ⟨hp,0,none⟩), .slice none 0 0] 130
 clk:Blk wr cg (Array.replicate n (I 0)) 3
 om:OmAt wr mb vs
 hpx:HpIn wr hp (.slice none 0 0) []
 lm:w.heap.size<=mb
 ext:Ext own own' w.heap.size
 c1:own' p=c
 c2:own' cg=c
 c3:own' mb=c
 c4:own' hp=c+9
 obs:∀j (h:j<vs.length),ObAt wr own' (c+1+j) vs[j] (newOb ((j:Int) % 4))
theorem NwAt.nl{w wr:World}{own:Clr}{c p cg mb hp i n:Nat}(h:NwAt w wr p cg mb hp i n):NlAt w wr own (fun b=>if b<w.heap.size then own b else if b=hp then c+9 else c) c p cg mb hp i n []:=by
 have hph:p ≠ hp:=by
  rintro rfl
  have h9:=h.blk.symm.trans h.hpx.blk
  simp at h9
 have hch:cg ≠ hp:=by
  rintro rfl
  have h9:=h.clk.symm.trans h.hpx.blk
  simp at h9
 have hmh:mb ≠ hp:=by
  rintro rfl
  obtain⟨_,_,hx,_⟩:=h.om
  cases h.hpx.blk.symm.trans hx
 have lp:=h.lp
 have lc:=h.lc
 have lm:=h.lm
 have lh:=h.lh
 refine⟨h.bel,h.blk,h.clk,h.om,h.hpx,h.lm,fun b hb=>if_pos hb, ?_, ?_, ?_, ?_,fun j hj=>absurd hj (by simp)⟩
 ·show(if p<w.heap.size then own p else if p=hp then c+9 else c)=c
  rw [if_neg (by omega),if_neg hph]
 ·show(if cg<w.heap.size then own cg else if cg=hp then c+9 else c)=c
  rw [if_neg (by omega),if_neg hch]
 ·show(if mb<w.heap.size then own mb else if mb=hp then c+9 else c)=c
  rw [if_neg (by omega),if_neg hmh]
 ·show(if hp<w.heap.size then own hp else if hp=hp then c+9 else c)=c+9
  rw [if_neg (by omega),if_pos rfl]
theorem NlAt.step{w wr w5 w6:World}{own own':Clr}{c p cg mb hp i n:Nat}{vs:List Value}{v:Value}(h:NlAt w wr own own' c p cg mb hp i n vs)(hb:Below wr.heap.size wr w5)(ho:ObAt w5 (newTo own' wr.heap.size (c+1+vs.length)) (c+1+vs.length) v (newOb ((vs.length:Int) % 4)))(hm:OmAt w6 mb (vs++ [v]))(hg:w5.grownBy w6 (some mb)):NlAt w w6 own (newTo own' wr.heap.size (c+1+vs.length)) c p cg mb hp i n (vs++ [v]):=by
 have he:=zaf own' wr.heap.size (c+1+vs.length)
 have hT:Tch (fun k=>k=mb) w5 w6:=(Tch.grown hg).mono (fun k _ e=>by simpa using e.symm)
 have hmw:mb<wr.heap.size:=h.om.lt
 have hpm:p ≠ mb:=by
  rintro rfl
  obtain⟨_,_,hx,_⟩:=h.om
  cases h.blk.symm.trans hx
 have hcm:cg ≠ mb:=by
  rintro rfl
  obtain⟨_,_,hx,_⟩:=h.om
  cases h.clk.symm.trans hx
 have hhm:hp ≠ mb:=by
  rintro rfl
  obtain⟨_,_,hx,_⟩:=h.om
  cases h.hpx.blk.symm.trans hx
 have hS:∀d,d ≠ c->Same (newTo own' wr.heap.size (c+1+vs.length)) d w5 w6:=fun d hd=>hT.same (fun k e e2=>hd (by
  have e2:k=mb:=e2
  rw [←e,e2,zac _ _ _ _ hmw,h.c3]))
 have hbw:Below w.heap.size w w5:=h.bel.trans (hb.mono h.bel.size)
 refine⟨?_,hT.blk (h.blk.kept hb h.blk.lt) hpm,hT.blk (h.clk.kept hb h.clk.lt) hcm,hm,⟨hT.blk (h.hpx.blk.kept hb h.hpx.blk.lt) hhm,⟨rfl, .inl ⟨rfl,rfl⟩⟩⟩,h.lm,h.ext.trans he h.bel.size,(he p h.blk.lt).trans h.c1,(he cg h.clk.lt).trans h.c2,(he mb hmw).trans h.c3,(he hp h.hpx.blk.lt).trans h.c4,fun j hj=> ?_⟩
 ·have:=h.lm
  exact hbw.trans (hT.toBelow hbw.size (fun k hk e=>by have e:k=mb:=e;omega))
 ·by_cases hjl:j<vs.length
  ·rw [List.getElem_append_left hjl]
   exact((h.obs j hjl).keep (fun b hl _=>hb.block b hl) he).keep (hS _ (by omega)) (Ext.refl _ _)
  ·have:j=vs.length:=by simp at hj;omega
   subst this
   rw [List.getElem_concat_length rfl]
   exact ho.keep (hS _ (by omega)) (Ext.refl _ _)
theorem NlAt.fin{w wr:World}{own own':Clr}{c p cg mb hp i n:Nat}{vs:List Value}(h:NlAt w wr own own' c p cg mb hp i n vs)(hl:vs.length=8):RpAt wr own' c p (newR i n):=by
 refine⟨cg,n,hp, .map (some mb), .slice none 0 0, .slice none 0 0, [], [],⟨?_, ?_,h.c1,h.c2,Or.inr ⟨mb,vs,rfl,h.c3,h.om,hl,rfl,fun k h1 h2=> ?_⟩,⟨h.hpx,h.c4,fun g e=>(by simp [Value.ownBlock] at e),fun m hm=>(by cases hm)⟩,rfl,⟨⟨rfl, .inl ⟨rfl,rfl⟩⟩,fun g e=>(by simp [Value.ownBlock] at e),fun x hx=>(by cases hx)⟩,rfl⟩⟩
 ·have e:(newR i n).clock.length=n:=by simp [newR]
  rw [e]
  exact h.blk
 ·have e:((newR i n).clock.map I).toArray=Array.replicate n (I 0):=by simp [newR]
  rw [e]
  exact h.clk
 ·have e:(newR i n).obs[k]=newOb ((k:Int) % 4):=by
   have hk:k<8:=by omega
   clear h1
   rcases k with _ | _ | _ | _ | _ | _ | _ | _ | k<;>first | rfl | omega
  rw [e]
  exact h.obs k h1
def RnewOk(w:World)(own:Clr)(c i n:Nat)(e:Ending)(w':World):Prop:=∃p own',e= .returned (.pointer (some ⟨p,0,none⟩))∧Below w.heap.size w w'∧Ext own own' w.heap.size∧RpAt w' own' c p (newR i n)
theorem zv2(own:Clr)(c:Nat)(i n:Nat)(w:World)(hn:n<=4):
  Calls Tryz.prog 38 #[I i,I n] w fun e w'=>RnewOk w own c i n e w':=by
 have hmm:=fun W=>zz6 W
 have hms:=fun W=>mkslI n hn W
 go_enter Tryz.func38,Tryz.ntmps38
 go_wp2_with fail
 go_cut [5] (fun v5 wx=>∃p cg mb hp,v5= .pointer (some ⟨p,0,none⟩)∧Hid (NwAt w wx p cg mb hp i n))
 case first=>
  go_region_law (first | (go_simp;go_at_call 61;refine(zy0 _).mono ?_;rintro e w3 ⟨rfl,rfl⟩))
  all_goals
   (go_wp2_with fail
    go_meet
    exact⟨_,_,_,_,rfl,zz0 w _ _ _ _ _ _ i n _ rfl (by first | exact al4_1 w _ _ _ _ | exact al4_2 w _ _ _ _ | exact al4_3 w _ _ _ _) (by first | exact al4_1 w _ _ _ _ | exact al4_2 w _ _ _ _ | exact al4_3 w _ _ _ _) (by first | exact al4_1 w _ _ _ _ | exact al4_2 w _ _ _ _ | exact al4_3 w _ _ _ _) (by omega) (by omega) (by omega)⟩)
 case rest=>
  obtain⟨p,cg,mb,hp,rfl,HN⟩:=hcut
  clear hmm hms
  go_wp2_with fail
  go_loopw [14] (fun x wX=>∃(own':Clr) (vs:List Value),vs.length<=8∧x=I vs.length∧Hid (NlAt w wX own own' c p cg mb hp i n vs)) (fun x _=>8 - (intOf x).toNat)
  case atStart=>exact⟨_, [],by simp,rfl,HN.out.nl⟩
  case round=>
   obtain⟨own',vs,hl,rfl,HL⟩:=hrel
   clear HN
   by_cases hlt:vs.length<8
   ·have hki:(vs.length:Int)<8:=by omega
    have HLD:Hid (NlAt w wr.drew own own' c p cg mb hp i n vs):=by
     have h:=HL.out
     exact⟨h.bel.drew,h.blk,h.clk,h.om.same rfl,⟨h.hpx.blk,⟨rfl, .inl ⟨rfl,rfl⟩⟩⟩,h.lm,h.ext,h.c1,h.c2,h.c3,h.c4,fun j hj=>(h.obs j hj).keep (fun _ _ _=>rfl) (Ext.refl _ _)⟩
    have y4:wr.drew.cell? ⟨p,4,none⟩=some (.map (some mb)):=HLD.out.blk.cell 4
    have hA1:0<=(vs.length:Int):=by omega
    have hA2:(vs.length:Int)<=7:=by omega
    go_wp2_with fail
    go_region_held_law (fun w'=>w'.cell? ⟨p,4,none⟩=some (.map (some mb))) (exact(by with_reducible assumption))
     (first
     | (go_at_call 64;refine(zb5 _ hA1 hA2 _).mono ?_;rintro e w4 ⟨rfl,hw4⟩;subst hw4)
     | (go_at_call 63;refine(zwo own' (c+1+vs.length) _ _).mono ?_;rintro e w5 ⟨v,rfl,hb5,ho5⟩;have HB5:Hid (Below wr.drew.heap.size wr.drew w5):=hb5;have HO5:Hid (ObAt w5 (newTo own' wr.drew.heap.size (c+1+vs.length)) (c+1+vs.length) v (newOb ((vs.length:Int) % 4))):=ho5;clear hb5 ho5;have z4:w5.cell? ⟨p,4,none⟩=some (.map (some mb)):=zaa HB5.out y4;obtain⟨w6,hu6,hm6,hg6⟩:=zjr v w5 mb vs (HLD.out.om.same (HB5.out.block mb HLD.out.om.lt));have HM6:Hid (OmAt w6 mb (vs++ [v])):=hm6;have HG6:Hid (w5.grownBy w6 (some mb)):=hg6;clear hm6 hg6;have q4:w6.cell? ⟨p,4,none⟩=some (.map (some mb)):=(by have:=(HLD.out.step HB5.out HO5.out HM6.out HG6.out).blk.cell 4;exact this)))
    have HL6:Hid (NlAt w w6 own (newTo own' wr.drew.heap.size (c+1+vs.length)) c p cg mb hp i n (vs++ [v])):=HLD.out.step HB5.out HO5.out HM6.out HG6.out
    have hln:(vs++ [v]).length=vs.length+1:=by simp
    have HLN:Hid ((vs++ [v]).length=vs.length+1):=hln
    clear hln hu6 HLD HL HB5 HO5 HM6 HG6 y4 z4 q4
    go_wp2_with fail
    go_roundw
    case rel=>exact⟨_,vs++ [v],by rw [HLN.out];omega,by rw [HLN.out];go_num,HL6⟩
    case measure=>simp [intOf];omega
   ·have hki:¬(vs.length:Int)<8:=by omega
    have HE:Hid (RpAt wr own' c p (newR i n)):=HL.out.fin (by omega)
    go_wp2
    go_ret
    exact⟨p,own',rfl,HL.out.bel,HL.out.ext,HE.out⟩
structure Sto where
 reps:List Rp
 msgs:List Ms
structure StIn(w:World)(own:Clr)(s rg cc pp ch:Nat)(pv:Value)(prs:List Nat)(S:Sto):Prop where
 blk:Blk w s #[.slice (some ⟨rg,0,none⟩) S.reps.length cc, .pointer (some ⟨pp,0,none⟩)] 83
 row:∀r (h:r<prs.length),w.cell? ⟨rg,r,none⟩=some (.pointer (some ⟨prs[r],0,none⟩))
 len:prs.length=S.reps.length
 most:S.reps.length<=4
 least:2<=S.reps.length
 own1:own s=900
 own2:own rg=900
 reps:∀r (h1:r<prs.length) (h2:r<S.reps.length),RpAt w own (1+11*r) prs[r] S.reps[r]
 post:PoIn w own 100 pp ch pv S.msgs
theorem StIn.rlt{w:World}{own:Clr}{s rg cc pp ch:Nat}{pv:Value}{prs:List Nat}{S:Sto}(h:StIn w own s rg cc pp ch pv prs S):rg<w.heap.size:=zag (h.row 0 (by have:=h.least;have:=h.len;omega))
theorem RpAt.keep{w w':World}{own own':Clr}{c p:Nat}{R:Rp}(h:RpAt w own c p R)(h0:Same own 0 w w')(hS:∀d,c<=d->d<=c+10->Same own d w w')(he:Ext own own' w.heap.size):RpAt w' own' c p R:=by
 obtain⟨cg,cc,hp,mv,hv,ev,hs,es,h⟩:=h
 exact⟨_,_,_,_,_,_,_,_,h.keep h0 hS he⟩
def StOk(w0 w:World)(own:Clr)(s:Nat)(S:Sto)(eb ef:Addr)(w':World):Prop:=∃own' rg cc pp ch pv prs,Ext own own' w.heap.size∧StIn w' own' s rg cc pp ch pv prs S∧Env w0 w' own' eb ef∧Tch (fun k=>1<=own k∧own k<=100) w w'
theorem StIn.below{w w':World}{own:Clr}{s rg cc pp ch:Nat}{pv:Value}{prs:List Nat}{S:Sto}(h:StIn w own s rg cc pp ch pv prs S)(hb:Below w.heap.size w w'):StIn w' (newTo own w.heap.size 0) s rg cc pp ch pv prs S:=by
 have he:=zaf own w.heap.size 0
 have hS:∀d,Same own d w w':=fun d b hl _=>hb.block b hl
 have hr:=h.rlt
 exact⟨h.blk.kept hb h.blk.lt,fun r hr=>zaa hb (h.row r hr),h.len,h.most,h.least,(he s h.blk.lt).trans h.own1,(he rg hr).trans h.own2,fun r h1 h2=>(h.reps r h1 h2).keep (hS 0) (fun d _ _=>hS d) he,h.post.keep (hS 100) he⟩
theorem StOk.below{w0 w w':World}{own:Clr}{s rg cc pp ch:Nat}{pv:Value}{prs:List Nat}{S:Sto}{eb ef:Addr}(h:StIn w own s rg cc pp ch pv prs S)(hen:Env w0 w own eb ef)(hb:Below w.heap.size w w'):StOk w0 w own s S eb ef w':=
 ⟨_,_,_,_,_,_,_,zaf _ _ _,h.below hb,hen.tch (F:=fun _=>False) (Tch.below hb) (fun _ _ h=>h) (zaf _ _ _),Tch.below hb⟩
theorem StOk.rep{w0 w w':World}{own:Clr}{s rg cc pp ch:Nat}{pv:Value}{prs:List Nat}{S:Sto}{eb ef:Addr}(h:StIn w own s rg cc pp ch pv prs S)(hen:Env w0 w own eb ef)(r:Nat)(hr:r<prs.length){R:Rp}(ho:ROk w own (1+11*r) prs[r] R w'):StOk w0 w own s {S with reps:=S.reps.set r R} eb ef w':=by
 obtain⟨own',hE,hR,hT⟩:=ho
 have hS:∀d,¬(1+11*r<=d∧d<=1+11*r+10)->Same own d w w':=fun d hd=>hT.same (fun k e e2=>hd (by rw [←e];exact e2))
 have hrg:∀k (hk:k<prs.length),rg<w.heap.size:=fun k hk=>zag (h.row k hk)
 have hm:=h.most
 have hl:=h.len
 refine⟨own',rg,cc,pp,ch,pv,prs,hE,⟨?_,fun k hk=>zan (h.row k hk) (hS 900 (by omega) rg (hrg k hk) h.own2), ?_, ?_, ?_,(hE s h.blk.lt).trans h.own1,(hE rg (hrg r hr)).trans h.own2,fun k h1 h2=> ?_,h.post.keep (hS 100 (by omega)) hE⟩,hen.tch hT (fun k e e2=>by rw [e] at e2;omega) hE,hT.mono (fun k _ e=>by omega)⟩
 ·show Blk w' s #[.slice (some ⟨rg,0,none⟩) (S.reps.set r R).length cc, .pointer (some ⟨pp,0,none⟩)] 83
  rw [List.length_set]
  exact(hS 900 (by omega) s h.blk.lt h.own1).trans h.blk
 ·show prs.length=(S.reps.set r R).length
  rw [List.length_set];exact h.len
 ·show(S.reps.set r R).length<=4
  rw [List.length_set];exact h.most
 ·show 2<=(S.reps.set r R).length
  rw [List.length_set];exact h.least
 ·show RpAt w' own' (1+11*k) prs[k] (S.reps.set r R)[k]
  by_cases hk:r=k
  ·subst hk
   rw [List.getElem_set_self]
   exact hR
  ·rw [List.getElem_set_ne hk]
   exact(h.reps k h1 (by omega)).keep (hS 0 (by omega)) (fun d a b=>hS d (by omega)) hE
theorem StOk.po{w0 w w':World}{own:Clr}{s rg cc pp ch:Nat}{pv:Value}{prs:List Nat}{S:Sto}{eb ef:Addr}(h:StIn w own s rg cc pp ch pv prs S)(hen:Env w0 w own eb ef){ms:List Ms}(ho:PoOk w own 100 pp ch ms w'):StOk w0 w own s {S with msgs:=ms} eb ef w':=by
 obtain⟨own',pv',hE,hP,hT⟩:=ho
 have hS:∀d,d ≠ 100->Same own d w w':=fun d hd=>hT.same (fun k e e2=>hd (by have e2:own k=100:=e2;omega))
 have hm:=h.most
 have hl:=h.len
 refine⟨own',rg,cc,pp,ch,pv',prs,hE,⟨(hS 900 (by omega) s h.blk.lt h.own1).trans h.blk,fun k hk=>zan (h.row k hk) (hS 900 (by omega) rg (zag (h.row k hk)) h.own2),h.len,h.most,h.least,(hE s h.blk.lt).trans h.own1,(hE rg h.rlt).trans h.own2,fun k h1 h2=>(h.reps k h1 h2).keep (hS 0 (by omega)) (fun d a b=>hS d (by omega)) hE,hP⟩,hen.tch hT (fun k e e2=>by have e2:own k=100:=e2;omega) hE,hT.mono (fun k _ e=>by have e:own k=100:=e;omega)⟩
theorem StOk.from{w0 w w5 w6:World}{own own5:Clr}{s:Nat}{S:Sto}{eb ef:Addr}(hE5:Ext own own5 w.heap.size)(hT5:Tch (fun k=>1<=own k∧own k<=100) w w5)(h:StOk w0 w5 own5 s S eb ef w6):StOk w0 w own s S eb ef w6:=by
 obtain⟨own',rg,cc,pp,ch,pv,prs,hE,hR,hen,hT⟩:=h
 exact⟨own',rg,cc,pp,ch,pv,prs,hE5.trans hE hT5.size,hR,hen,hT5.trans hT (fun _ _ h=>h) (fun k hk h=>by rw [hE5 k hk] at h;exact h)⟩
theorem zmr(own:Clr)(s rg cc pp ch:Nat)(pv:Value)(prs:List Nat)(S:Sto)(r:Int)(w:World)(h:StIn w own s rg cc pp ch pv prs S):
  Calls Tryz.prog 75 #[.pointer (some ⟨s,0,none⟩),I r] w fun e w'=>e= .returned (.bool (decide (0<=r∧r<S.reps.length)))∧w'=w:=by
 have c1:w.cell? ⟨s,0,none⟩=some (.slice (some ⟨rg,0,none⟩) S.reps.length cc):=h.blk.cell 0
 clear h
 obtain⟨bq,HQ⟩:∃bq,Hid (decide (0<=r∧r<(S.reps.length:Int))=bq):=⟨_,rfl⟩
 rw [HQ.out]
 go_enter Tryz.func75,Tryz.ntmps75
 by_cases h0:0<=r
 ·by_cases h1:r<(S.reps.length:Int)
  ·have HD:Hid (true=bq):=(decide_eq_true (p:=0<=r∧r<(S.reps.length:Int)) ⟨h0,h1⟩).symm.trans HQ.out
   clear HQ
   go_wp2
   go_ret
   exact⟨by rw [←HD.out];rfl,rfl⟩
  ·have HD:Hid (false=bq):=(decide_eq_false (p:=0<=r∧r<(S.reps.length:Int)) (fun h=>h1 h.2)).symm.trans HQ.out
   clear HQ
   go_wp2
   go_ret
   exact⟨by rw [←HD.out];rfl,rfl⟩
 ·have HD:Hid (false=bq):=(decide_eq_false (p:=0<=r∧r<(S.reps.length:Int)) (fun h=>h0 h.1)).symm.trans HQ.out
  clear HQ
  go_wp2
  go_ret
  exact⟨by rw [←HD.out];rfl,rfl⟩
theorem zem(own:Clr)(s rg cc pp ch:Nat)(pv:Value)(prs:List Nat)(S:Sto)(r:Nat)(hr:r<prs.length)(w:World)(h:StIn w own s rg cc pp ch pv prs S):
  Calls Tryz.prog 48 #[.pointer (some ⟨s,0,none⟩),I r] w fun e w'=>e= .returned (.tuple #[.pointer (some ⟨prs[r],0,none⟩),I 0])∧w'=w:=by
 have HS:Hid (StIn w own s rg cc pp ch pv prs S):=h
 have c0:w.cell? ⟨s,0,none⟩=some (.slice (some ⟨rg,0,none⟩) S.reps.length cc):=h.blk.cell 0
 have c1:w.cell? ⟨rg,r,none⟩=some (.pointer (some ⟨prs[r],0,none⟩)):=h.row r hr
 have hri:(r:Int)<(S.reps.length:Int):=by have:=h.len;omega
 have hrn:r<S.reps.length:=by omega
 have hd:decide (0<=(r:Int)∧(r:Int)<(S.reps.length:Int))=true:=decide_eq_true ⟨by omega,hri⟩
 clear h
 generalize prs[r]=p at *
 go_enter Tryz.func48,Tryz.ntmps48
 go_wp2_with fail
 refine(zmr own s rg cc pp ch pv prs S r w HS.out).mono ?_
 rintro e w1 ⟨rfl,hw1⟩
 subst hw1
 rw [hd]
 go_wp2
 go_ret2
 exact⟨rfl,rfl⟩
theorem zc2(own:Clr)(s rg cc pp ch:Nat)(pv:Value)(prs:List Nat)(S:Sto)(r:Nat)(hr:r<prs.length)(R:Rp)(hR:S.reps[r]?=some R)(hst:R.st ≠ 2)(w:World)(h:StIn w own s rg cc pp ch pv prs S):
  Calls Tryz.prog 39 #[.pointer (some ⟨s,0,none⟩),I r] w fun e w'=>e= .returned (.tuple #[.pointer (some ⟨prs[r],0,none⟩),I 0])∧w'=w:=by
 have HS:Hid (StIn w own s rg cc pp ch pv prs S):=h
 obtain⟨hrn,rfl⟩:=List.getElem?_eq_some_iff.1 hR
 obtain⟨cg,cc',hp,mv,hv,ev,hs,es,hrp⟩:=h.reps r hr hrn
 have HR:Hid (RpIn w own (1+11*r) prs[r] S.reps[r] cg cc' hp mv hv ev hs es):=hrp
 have hb:(S.reps[r].st==2)=false:=by simp [hst]
 have HC:Hid (Calls Tryz.prog 48 #[.pointer (some ⟨s,0,none⟩),I r] w fun e w'=>e= .returned (.tuple #[.pointer (some ⟨prs[r],0,none⟩),I 0])∧w'=w):=zem own s rg cc pp ch pv prs S r hr w h
 clear h hrp hR hst
 generalize prs[r]=p at *
 go_enter Tryz.func39,Tryz.ntmps39
 go_wp2_with fail
 refine HC.out.mono ?_
 rintro e w1 ⟨rfl,hw1⟩
 subst hw1
 go_wp2_with fail
 refine(zmx own (1+11*r) p _ cg cc' hp mv hv ev hs es w1 HR.out).mono ?_
 rintro e w2 ⟨rfl,hw2⟩
 subst hw2
 rw [hb]
 go_wp2
 go_ret2
 exact⟨rfl,rfl⟩
structure Rup(R:Rp):Prop where
 ok:Rok R
 n0:0<=R.n
 n1:R.n<R.clock.length
 up:R.st ≠ 2
 el:R.effs.length<=5
 ev:∀e∈R.effs,0<=e.ob∧e.ob<8∧ -1000<=e.va∧e.va<=1000∧e.dots.length<=1048576
theorem Rup.hl{R:Rp}(h:Rup R):R.clock.length<=1000:=by have:=h.ok.len;omega
theorem Rup.hs0{R:Rp}(h:Rup R):∀z∈R.clock,0<=z∧z<=1000000:=fun z hz=>⟨(h.ok.clk z hz).1,by have:=(h.ok.clk z hz).2;omega⟩
theorem Rup.ht1{R:Rp}(h:Rup R):R.time<=1000000000:=by have:=h.ok.time1;omega
theorem Rup.hN{R:Rp}(h:Rup R):5*sumN R.clock+R.effs.length<=100000:=by have:=h.ok.sum;have:=h.el;omega
theorem Rup.hv{R:Rp}(h:Rup R):∀e∈R.effs, -1000<=e.va∧e.va<=1000∧e.dots.length<=1048576:=fun e he=>(h.ev e he).2.2
theorem StIn.prl{w:World}{own:Clr}{s rg cc pp ch:Nat}{pv:Value}{prs:List Nat}{S:Sto}(h:StIn w own s rg cc pp ch pv prs S){r:Nat}{R:Rp}(hR:S.reps[r]?=some R):∃hr:r<prs.length,RpAt w own (1+11*r) prs[r] R:=by
 obtain⟨hrn,rfl⟩:=List.getElem?_eq_some_iff.1 hR
 have hl:=h.len
 exact⟨by omega,h.reps r (by omega) hrn⟩
theorem zow(own:Clr)(s rg cc pp ch:Nat)(pv:Value)(prs:List Nat)(S:Sto)(r:Nat)(R:Rp)(w w0:World)(eb ef:Addr)(hen:Env w0 w own eb ef)(h:StIn w own s rg cc pp ch pv prs S)(hR:S.reps[r]?=some R)(hup:Rup R):
  Calls Tryz.prog 16 #[.pointer (some ⟨s,0,none⟩),I r] w fun e w'=>e= .returned (I (zbz R).2)∧StOk w0 w own s {S with reps:=S.reps.set r (zbz R).1} eb ef w':=by
 obtain⟨hr,cg,cc',hp,mv,hv,ev,hs,es,hrp⟩:=h.prl hR
 have HU:Hid (Calls Tryz.prog 39 #[.pointer (some ⟨s,0,none⟩),I r] w fun e w'=>e= .returned (.tuple #[.pointer (some ⟨prs[r],0,none⟩),I 0])∧w'=w):=zc2 own s rg cc pp ch pv prs S r hr R hR hup.up w h
 have HC:Hid (Calls Tryz.prog 40 #[.pointer (some ⟨prs[r],0,none⟩)] w fun e w'=>e= .returned (I (zbz R).2)∧StOk w0 w own s {S with reps:=S.reps.set r (zbz R).1} eb ef w'):=(zpg own (1+11*r) prs[r] R cg cc' hp mv hv ev hs es w (by omega) hrp hup.n0 hup.n1).mono (fun e w' hh=>⟨hh.1,StOk.rep h hen r hr (ROk.self hrp.own1 hh.2)⟩)
 clear h hrp hup hen hR
 generalize prs[r]=p at *
 generalize (zbz R).2=z at *
 generalize (zbz R).1=R' at *
 go_enter Tryz.func16,Tryz.ntmps16
 go_wp2_with fail
 refine HU.out.mono ?_
 rintro e w1 ⟨rfl,hw1⟩
 subst hw1
 go_wp2_with fail
 refine HC.out.mono ?_
 rintro e w2 ⟨rfl,h2⟩
 have HE:Hid (StOk w0 w1 own s {S with reps:=S.reps.set r R'} eb ef w2):=h2
 clear h2
 go_wp2
 go_ret
 exact⟨rfl,HE.out⟩
end Go.Proofs.YtfmcngncaffloaaGreatDoor
