import Derived.Test.YtfmcngncaffloabGreatDoorJ03KeA
import Derived.RegionTactic
set_option maxHeartbeats 3200000
namespace Go.Proofs.YtfmcngncaffloabGreatDoor
open Go.RowKit Go.Proofs.Tryz Wv
set_option maxRecDepth 100000
def ruleV(op:Int):Value:= .agg #[I (rKind op),I (rLeast op),I (rGreat op),I (rRef op),I (rLeastD op),I (rMostD op)]
theorem zh1(op:Int)(w:World)(eb ef:Addr)(g:Gl w eb ef)(h:¬(1<=op∧op<=6)):
  Calls prog 67 #[I op] w fun e w'=>(∃s,e= .returned (.tuple #[.agg #[I 0,I 0,I 0,I 0,I 0,I 0],Flt s (Sent eb)]))∧Below w.heap.size w w':=by
 have h':(!(decide (1<=op) && decide (op<=6)))=true:=by simp;omega
 have hE:=g.errBatch;have hz:=zad hE;clear g h;go_enter func67,ntmps67;go_wp2_with (go_at_call 97;refine(zai _ _ _ _).mono ?_;rintro e w' ⟨rfl,h⟩;subst h)
 go_region
 go_wp2;refine bodyPost_ret (v:= .tuple #[.agg #[I 0,I 0,I 0,I 0,I 0,I 0],Flt _ (Sent eb)]) (by simp [results,Tryz.results67,go_sem];rfl) rfl ⟨⟨_,rfl⟩, ?_⟩;exact((Below.refl _ _).alloc (ac _) _).drew
theorem zyy(w:World)(eb ef:Addr)(g:Gl w eb ef):
  Calls prog 67 #[I 1] w fun e w'=>e= .returned (.tuple #[ruleV 1, .nilIface])∧Below w.heap.size w w':=by
 have c0:w.cell? ⟨1,6,none⟩=some (I 0):=g.rules 6 (by decide);have c1:w.cell? ⟨1,7,none⟩=some (I (-1000)):=g.rules 7 (by decide);have c2:w.cell? ⟨1,8,none⟩=some (I 1000):=g.rules 8 (by decide);have c3:w.cell? ⟨1,9,none⟩=some (I 0):=g.rules 9 (by decide);have c4:w.cell? ⟨1,10,none⟩=some (I 0):=g.rules 10 (by decide);have c5:w.cell? ⟨1,11,none⟩=some (I 0):=g.rules 11 (by decide);have hz:=zad c0;clear g;go_enter func67,ntmps67;go_wp2_with (go_at_call 97;refine(zai _ _ _ _).mono ?_;rintro e w' ⟨rfl,h⟩;subst h)
 refine bodyPost_ret (v:= .tuple #[ruleV 1, .nilIface]) (by simp [results,Tryz.results67,go_sem,ruleV,rKind,rLeast,rGreat,rRef,rLeastD,rMostD]) rfl ⟨rfl, ?_⟩;exact((Below.refl _ _).alloc (ac _) _)
theorem zyx(w:World)(eb ef:Addr)(g:Gl w eb ef):
  Calls prog 67 #[I 2] w fun e w'=>e= .returned (.tuple #[ruleV 2, .nilIface])∧Below w.heap.size w w':=by
 have c0:w.cell? ⟨1,12,none⟩=some (I 1):=g.rules 12 (by decide);have c1:w.cell? ⟨1,13,none⟩=some (I 0):=g.rules 13 (by decide);have c2:w.cell? ⟨1,14,none⟩=some (I 255):=g.rules 14 (by decide);have c3:w.cell? ⟨1,15,none⟩=some (I 0):=g.rules 15 (by decide);have c4:w.cell? ⟨1,16,none⟩=some (I 0):=g.rules 16 (by decide);have c5:w.cell? ⟨1,17,none⟩=some (I 0):=g.rules 17 (by decide);have hz:=zad c0;clear g;go_enter func67,ntmps67;go_wp2_with (go_at_call 97;refine(zai _ _ _ _).mono ?_;rintro e w' ⟨rfl,h⟩;subst h)
 refine bodyPost_ret (v:= .tuple #[ruleV 2, .nilIface]) (by simp [results,Tryz.results67,go_sem,ruleV,rKind,rLeast,rGreat,rRef,rLeastD,rMostD]) rfl ⟨rfl, ?_⟩;exact((Below.refl _ _).alloc (ac _) _)
theorem zyw(w:World)(eb ef:Addr)(g:Gl w eb ef):
  Calls prog 67 #[I 3] w fun e w'=>e= .returned (.tuple #[ruleV 3, .nilIface])∧Below w.heap.size w w':=by
 have c0:w.cell? ⟨1,18,none⟩=some (I 1):=g.rules 18 (by decide);have c1:w.cell? ⟨1,19,none⟩=some (I 0):=g.rules 19 (by decide);have c2:w.cell? ⟨1,20,none⟩=some (I 0):=g.rules 20 (by decide);have c3:w.cell? ⟨1,21,none⟩=some (I 0):=g.rules 21 (by decide);have c4:w.cell? ⟨1,22,none⟩=some (I 1):=g.rules 22 (by decide);have c5:w.cell? ⟨1,23,none⟩=some (I 150):=g.rules 23 (by decide);have hz:=zad c0;clear g;go_enter func67,ntmps67;go_wp2_with (go_at_call 97;refine(zai _ _ _ _).mono ?_;rintro e w' ⟨rfl,h⟩;subst h)
 refine bodyPost_ret (v:= .tuple #[ruleV 3, .nilIface]) (by simp [results,Tryz.results67,go_sem,ruleV,rKind,rLeast,rGreat,rRef,rLeastD,rMostD]) rfl ⟨rfl, ?_⟩;exact((Below.refl _ _).alloc (ac _) _)
theorem zyv(w:World)(eb ef:Addr)(g:Gl w eb ef):
  Calls prog 67 #[I 4] w fun e w'=>e= .returned (.tuple #[ruleV 4, .nilIface])∧Below w.heap.size w w':=by
 have c0:w.cell? ⟨1,24,none⟩=some (I 2):=g.rules 24 (by decide);have c1:w.cell? ⟨1,25,none⟩=some (I 0):=g.rules 25 (by decide);have c2:w.cell? ⟨1,26,none⟩=some (I 255):=g.rules 26 (by decide);have c3:w.cell? ⟨1,27,none⟩=some (I 0):=g.rules 27 (by decide);have c4:w.cell? ⟨1,28,none⟩=some (I 0):=g.rules 28 (by decide);have c5:w.cell? ⟨1,29,none⟩=some (I 150):=g.rules 29 (by decide);have hz:=zad c0;clear g;go_enter func67,ntmps67;go_wp2_with (go_at_call 97;refine(zai _ _ _ _).mono ?_;rintro e w' ⟨rfl,h⟩;subst h)
 refine bodyPost_ret (v:= .tuple #[ruleV 4, .nilIface]) (by simp [results,Tryz.results67,go_sem,ruleV,rKind,rLeast,rGreat,rRef,rLeastD,rMostD]) rfl ⟨rfl, ?_⟩;exact((Below.refl _ _).alloc (ac _) _)
theorem zyu(w:World)(eb ef:Addr)(g:Gl w eb ef):
  Calls prog 67 #[I 5] w fun e w'=>e= .returned (.tuple #[ruleV 5, .nilIface])∧Below w.heap.size w w':=by
 have c0:w.cell? ⟨1,30,none⟩=some (I 3):=g.rules 30 (by decide);have c1:w.cell? ⟨1,31,none⟩=some (I 0):=g.rules 31 (by decide);have c2:w.cell? ⟨1,32,none⟩=some (I 255):=g.rules 32 (by decide);have c3:w.cell? ⟨1,33,none⟩=some (I 1):=g.rules 33 (by decide);have c4:w.cell? ⟨1,34,none⟩=some (I 0):=g.rules 34 (by decide);have c5:w.cell? ⟨1,35,none⟩=some (I 0):=g.rules 35 (by decide);have hz:=zad c0;clear g;go_enter func67,ntmps67;go_wp2_with (go_at_call 97;refine(zai _ _ _ _).mono ?_;rintro e w' ⟨rfl,h⟩;subst h)
 refine bodyPost_ret (v:= .tuple #[ruleV 5, .nilIface]) (by simp [results,Tryz.results67,go_sem,ruleV,rKind,rLeast,rGreat,rRef,rLeastD,rMostD]) rfl ⟨rfl, ?_⟩;exact((Below.refl _ _).alloc (ac _) _)
theorem zyt(w:World)(eb ef:Addr)(g:Gl w eb ef):
  Calls prog 67 #[I 6] w fun e w'=>e= .returned (.tuple #[ruleV 6, .nilIface])∧Below w.heap.size w w':=by
 have c0:w.cell? ⟨1,36,none⟩=some (I 3):=g.rules 36 (by decide);have c1:w.cell? ⟨1,37,none⟩=some (I 0):=g.rules 37 (by decide);have c2:w.cell? ⟨1,38,none⟩=some (I 0):=g.rules 38 (by decide);have c3:w.cell? ⟨1,39,none⟩=some (I 2):=g.rules 39 (by decide);have c4:w.cell? ⟨1,40,none⟩=some (I 0):=g.rules 40 (by decide);have c5:w.cell? ⟨1,41,none⟩=some (I 0):=g.rules 41 (by decide);have hz:=zad c0;clear g;go_enter func67,ntmps67;go_wp2_with (go_at_call 97;refine(zai _ _ _ _).mono ?_;rintro e w' ⟨rfl,h⟩;subst h)
 refine bodyPost_ret (v:= .tuple #[ruleV 6, .nilIface]) (by simp [results,Tryz.results67,go_sem,ruleV,rKind,rLeast,rGreat,rRef,rLeastD,rMostD]) rfl ⟨rfl, ?_⟩;exact((Below.refl _ _).alloc (ac _) _)
theorem zbg(op:Int)(w:World)(eb ef:Addr)(g:Gl w eb ef)(h:1<=op∧op<=6):
  Calls prog 67 #[I op] w fun e w'=>e= .returned (.tuple #[ruleV op, .nilIface])∧Below w.heap.size w w':=by
 obtain rfl | rfl | rfl | rfl | rfl | rfl:op=1∨op=2∨op=3∨op=4∨op=5∨op=6:=by omega
 ·exact zyy w eb ef g
 ·exact zyx w eb ef g
 ·exact zyw w eb ef g
 ·exact zyv w eb ef g
 ·exact zyu w eb ef g
 ·exact zyt w eb ef g
def OwnB(w:World)(B:Nat)(v:Value)(l:List UInt8):Prop:=w.ownsRow B 5 1 v l.length (l.map B8)
theorem OwnB.nil(w:World)(B:Nat):OwnB w B (.slice none 0 0) []:=World.ownsRow_nil w B _ 1
theorem zft:(prog.info? 5).map (fun i=>(i.zero,i.size,i.bytes))=some (some (.int .u8 0),1,1):=by kernel_rfl
theorem zdf(l:List UInt8):∀u∈l.map B8,u.oneCell'=true:=by
 intro u hu;obtain⟨_,_,rfl⟩:=aG.1 hu;rfl
theorem OwnB.append{w:World}{B:Nat}{v':Value}{l news:List UInt8}{n:Nat}(hn:n=news.length)(h:w.ownsRow B 5 1 v' (l.length+n) (l.map B8++news.map B8)):OwnB w B v' (l++news):=by
 subst hn;unfold OwnB;rw [ah,aO];exact h
theorem zcw(w:World)(cs:Array Value)(l:List UInt8)(hcs:cs=(l.map B8).toArray):∀j u,(l.map B8)[j]?=some u->(w.alloc (.cells cs 5)).cell? ((⟨w.heap.size,0,none⟩:Addr).add j)=some u:=by
 intro j u hu;rw [Addr.add_lit,aV,World.cell?_alloc_mark,hcs];simpa using hu
structure Grew(w w':World)(v v':Value):Prop where
 grown:w.grownBy w' v.ownBlock
 own:v'.ownBlock=v.ownBlock∨∃k,v'.ownBlock=some k∧w.heap.size<=k
theorem Grew.trans{w w1 w2:World}{v v1 v2:Value}(h:Grew w w1 v v1)(k:Grew w1 w2 v1 v2):Grew w w2 v v2:=by
 have hs:=h.grown.size;refine⟨⟨k.grown.os.trans h.grown.os,k.grown.tape.trans h.grown.tape,k.grown.output.trans h.grown.output,aQ hs k.grown.size,fun j hj hne=> ?_⟩, ?_⟩
 ·rw [k.grown.block j (by omega) ?_,h.grown.block j hj hne]
  rcases h.own with e | ⟨q,e,hq⟩
  ·rw [e];exact hne
  ·rw [e];intro x;cases x;omega
 ·rcases k.own with e | ⟨q,e,hq⟩
  ·rw [e]
   exact h.own
  ·exact Or.inr ⟨q,e,by omega⟩
theorem Grew.of_below{w w':World}(h:Below w.heap.size w w')(v:Value):Grew w w' v v:=⟨⟨h.os,h.tape,h.output,h.size,fun k hk _=>h.block k hk⟩,Or.inl rfl⟩
theorem Grew.refl(w:World)(v:Value):Grew w w v v:=Grew.of_below (Below.refl _ _) v
theorem OwnB.kept{w w':World}{B:Nat}{v:Value}{l:List UInt8}(h:OwnB w B v l)(hb:Below w.heap.size w w'):OwnB w' B v l:=by
 refine World.ownsRow.kept (row:=none) h ⟨hb.os,hb.tape,hb.output,hb.size,fun k hk _=>hb.block k hk⟩ ?_;cases v.ownBlock<;>simp
theorem Grew.below{w w':World}{v v':Value}{B:Nat}{l:List UInt8}(h:Grew w w' v v')(hB:B<=w.heap.size)(ho:OwnB w B v l):Below B w w':=
 (Below.refl B w).grown h.grown hB (fun k hk=>(ho.lt k hk).1)
theorem Grew.cell{w w':World}{v v':Value}(h:Grew w w' v v'){b o:Nat}{u:Value}(hne:some b ≠ v.ownBlock)(hc:w.cell? ⟨b,o,none⟩=some u):w'.cell? ⟨b,o,none⟩=some u:=
 h.grown.cell hc hne
theorem OwnB.new_ne{w:World}{B:Nat}{v:Value}{l:List UInt8}(h:OwnB w B v l){b:Nat}(hb:w.heap.size<=b):some b ≠ v.ownBlock:=by
 intro e;have:=(h.lt b e.symm).2;omega
theorem Grew.app{w w':World}{v v':Value}(hg:w.grownBy w' v.ownBlock)(hat:v'.ownBlock=v.ownBlock∨v'.ownBlock=some w.heap.size):Grew w w' v v':=
 ⟨hg,hat.imp id fun e=>⟨_,e,ac _⟩⟩
theorem Grew.new{w:World}(o:Obj)(v:Value):Grew w (w.alloc o) v v:=Grew.of_below ((Below.refl _ _).alloc (ac _) _) v
theorem zg8(v:Value)(l:List UInt8)(n:Int)(B:Nat)(w:World)(hB:B<=w.heap.size)(ho:OwnB w B v l)(hl:l.length<=1048576):
  Calls prog 136 #[v,I n] w fun e w'=>∃v',e= .returned v'∧OwnB w' B v' (l++be2 n)∧Grew w w' v v':=by
 obtain⟨i,hi,hz0,hz1,hz2⟩:=info_parts zft;have HO:Hid (OwnB w B v l):=ho
 have HC:Hid (#[Value.int .u8 (n / 256 % 256),Value.int .u8 (n % 256)]=((be2 n).map B8).toArray):=by
  show #[Value.int .u8 (n / 256 % 256),Value.int .u8 (n % 256)]=_;simp only [be2,B8,List.map,ofNat_toNat]
 clear ho;go_enter func136,ntmps136;go_wp2_with (first | (at_builtin;go_must (refine wpList_append_own_at _ rfl _ _ _ rfl B 5 i (.int .u8 0) 1 1 underlying191 hi hz0 hz1 hz2 rfl (by omega) v l.length (l.map B8) rfl (HO.out.alloc _) ⟨w.heap.size,0,none⟩ 2 2 ((be2 n).map B8) rfl rfl (zcw w _ _ HC.out) (zdf _) (by unfold maxLen;omega) (by omega) (by simp;omega) ?_;intro v' w' hown hgrow hnil hat)))
 go_ret;exact⟨_,rfl,OwnB.append rfl hown,(Grew.new _ v).trans (Grew.app hgrow hat)⟩
structure Ops(σ:Type) where
 bgn:σ->Int->σ×Int
 abt:σ->Int->σ×Int
 doo:σ->Int->Int->Int->Int->Int->σ×Int
 com:σ->Int->σ×Int×Int
 dlv:σ->Int->σ×Int
 drp:σ->Int->σ×Int
 twc:σ->Int->σ×Int
 spl:σ->Int->Int->Int->σ×Int
 ask:σ->Int->Int->σ×Int
 syn:σ->Int->σ×Int
 crs:σ->Int->Int->σ×Int
 fal:σ->Int->Int->σ×Int
 rst:σ->Int->σ×Int
 rd:σ->Int->Int->List Int×Int
abbrev sV (s:Nat):Value:= .pointer (some ⟨s,0,none⟩)
def Cl{σ:Type}(P:σ->World->Prop)(fn:Nat)(args:Array Value)(w:World)(a:σ×Int):Prop:=Calls prog fn args w fun e w'=>e= .returned (I a.2)∧P a.1 w'
def Rl(fn:Nat)(args:Array Value)(w:World)(a:List Int×Int):Prop:=Calls prog fn args w fun e w'=>∃v,e= .returned (.tuple #[v,I a.2])∧w'.ownsRow w.heap.size 3 1 v a.1.length (a.1.map I)∧Below w.heap.size w w'
structure Api{σ:Type}(O:Ops σ)(P:σ->World->Prop)(s:Nat):Prop where
 bel:∀S w w',P S w->Below w.heap.size w w'->P S w'
 bgn:∀S w r,P S w->Cl P 16 #[sV s,I r] w (O.bgn S r)
 abt:∀S w r,P S w->Cl P 27 #[sV s,I r] w (O.abt S r)
 doo:∀S w r a b c d,P S w->Cl P 17 #[sV s,I r,I a,I b,I c,I d] w (O.doo S r a b c d)
 com:∀S w r,P S w->Calls prog 18 #[sV s,I r] w fun e w'=>e= .returned (.tuple #[I (O.com S r).2.1,I (O.com S r).2.2])∧P (O.com S r).1 w'
 dlv:∀S w i,P S w->Cl P 28 #[sV s,I i] w (O.dlv S i)
 drp:∀S w i,P S w->Cl P 33 #[sV s,I i] w (O.drp S i)
 twc:∀S w i,P S w->Cl P 45 #[sV s,I i] w (O.twc S i)
 spl:∀S w i j k,P S w->Cl P 46 #[sV s,I i,I j,I k] w (O.spl S i j k)
 ask:∀S w r t,P S w->Cl P 30 #[sV s,I r,I t] w (O.ask S r t)
 syn:∀S w r,P S w->Cl P 31 #[sV s,I r] w (O.syn S r)
 crs:∀S w r k,P S w->Cl P 20 #[sV s,I r,I k] w (O.crs S r k)
 fal:∀S w r k,P S w->Cl P 19 #[sV s,I r,I k] w (O.fal S r k)
 rst:∀S w r,P S w->Cl P 32 #[sV s,I r] w (O.rst S r)
 rd:∀S w r o,P S w->Rl 14 #[sV s,I r,I o] w (O.rd S r o)
structure Apz{σ:Type}(O:Ops σ)(P:List (Nat×Obj)->σ->World->Prop)(s:Nat):Prop where
 api:∀Z,Api O (P Z) s
 kz:∀Z S w,P Z S w->∀p∈Z,w.heap[p.1]?=some p.2
 more:∀Z V S w w',P Z S w->Below w.heap.size w w'->(∀p∈V,w.heap.size<=p.1∧w'.heap[p.1]?=some p.2)->P (V++Z) S w'
 less:∀V Z S w,P (V++Z) S w->P Z S w
structure Bad{σ:Type}(O:Ops σ)(n:Nat)(S:σ):Prop where
 bgn:∀(r:Int),r<0∨n<=r->O.bgn S r=(S,3)
 abt:∀(r:Int),r<0∨n<=r->O.abt S r=(S,3)
 com:∀(r:Int),r<0∨n<=r->O.com S r=(S,0,3)
 rd:∀(r k:Int),r<0∨n<=r->O.rd S r k=([],3)
 doo:∀(r a b c d:Int),r<0∨n<=r->O.doo S r a b c d=(S,3)
 ask:∀(r t:Int),r<0∨n<=r->O.ask S r t=(S,3)
 crs:∀(r k:Int),r<0∨n<=r->O.crs S r k=(S,3)
 rst:∀(r:Int),r<0∨n<=r->O.rst S r=(S,3)
 fal:∀(r k:Int),r<0∨n<=r->O.fal S r k=(S,3)
 dlv:∀(i:Int),i<0∨40<=i->O.dlv S i=(S,14)
 drp:∀(i:Int),i<0∨40<=i->O.drp S i=(S,14)
 twc:∀(i:Int),i<0∨40<=i->O.twc S i=(S,14)
 spl:∀(i j k:Int),i<0∨40<=i->O.spl S i j k=(S,14)
structure Asks(n s:Nat)(w:World)(lg:Nat->List UInt8)(hd:Nat->Int)(ck:Nat->List Int)(rd:Int->Int->List Int×Int)(k:Nat)(cs:List Value):Prop where
 lg:∀r:Nat,r<n->Calls prog 47 #[sV s,I r] w fun e w'=>e= .returned (.tuple #[.string ⟨(lg r).toArray⟩,I 0])∧w'=w
 hd:∀r:Nat,r<n->Calls prog 48 #[sV s,I r] w fun e w'=>e= .returned (.tuple #[I (hd r),I 0])∧w'=w
 ck:∀r:Nat,r<n->Rl 13 #[sV s,I r] w (ck r,0)
 rd:∀r o:Int,Rl 14 #[sV s,I r,I o] w (rd r o)
 ms:Calls prog 34 #[sV s] w fun e w'=>∃v,e= .returned (.tuple #[v,I 0])∧w'.ownsRow w.heap.size 72 4 v k cs∧Below w.heap.size w w'
structure BegOk{σ:Type}(O:Ops σ)(S:σ):Prop where
 b1:(O.bgn S 0).2=0
 b2:(O.doo (O.bgn S 0).1 0 5 3 0 9).2=0
 b3:(O.doo (O.doo (O.bgn S 0).1 0 5 3 0 9).1 0 1 0 5 0).2=0
 b4:(O.doo (O.doo (O.doo (O.bgn S 0).1 0 5 3 0 9).1 0 1 0 5 0).1 0 1 4 5 0).2=0
 b5:(O.com (O.doo (O.doo (O.doo (O.bgn S 0).1 0 5 3 0 9).1 0 1 0 5 0).1 0 1 4 5 0).1 0).2=(1,0)
 b6:O.rd (O.com (O.doo (O.doo (O.doo (O.bgn S 0).1 0 5 3 0 9).1 0 1 0 5 0).1 0 1 4 5 0).1 0).1 0 3=([9],0)
 b7:O.rd (O.com (O.doo (O.doo (O.doo (O.bgn S 0).1 0 5 3 0 9).1 0 1 0 5 0).1 0 1 4 5 0).1 0).1 0 0=([5],0)
def begF{σ:Type}(O:Ops σ)(S:σ):σ:=(O.com (O.doo (O.doo (O.doo (O.bgn S 0).1 0 5 3 0 9).1 0 1 0 5 0).1 0 1 4 5 0).1 0).1
def kdI(op:Int):Int:=if op=1 then 0 else if op=2∨op=3 then 1 else if op=4 then 2 else 3
def Rg(z:Int):Prop:= -9223372036854775808<=z∧z<=9223372036854775807
section
variable {σ : Type} {O : Ops σ} {P : σ -> World -> Prop} {s n : Nat} {S : σ}
end
theorem zz1(op:Int)(h1:1<=op)(h6:op<=6)(w:World):Calls prog 26 #[I op] w fun e w'=>e= .returned (I (kdI op))∧w'=w:=by
 obtain rfl | rfl | rfl | rfl | rfl | rfl:op=1∨op=2∨op=3∨op=4∨op=5∨op=6:=by omega
 all_goals
  go_enter func26,ntmps26;go_wp2;go_ret;exact⟨rfl,rfl⟩
structure Sp where
 k:Int
 r:Int
 a:Int
 b:Int
 c:Int
abbrev spV (o:Sp):Value:= .agg #[I o.k,I o.r,I o.a,I o.b,I o.c]
abbrev spO (o:Sp):Obj:= .cells #[I o.k,I o.r,I o.a,I o.b,I o.c] 30
structure SpOk(o:Sp):Prop where
 k:Rg o.k
 r:Rg o.r
 a:Rg o.a
 b:Rg o.b
 c:Rg o.c
section
variable {σ : Type} {O : Ops σ} {P : List (Nat × Obj) -> σ -> World -> Prop} {s n : Nat} {S : σ} {Z : List (Nat × Obj)}
theorem Apz.lit(hA:Apz O P s){w:World}(h:P Z S w)(o:Sp):P ((w.heap.size,spO o)::Z) S (w.alloc (spO o)):=
 hA.more Z [(w.heap.size,spO o)] S w _ h ((Below.refl _ _).alloc (ac _) _) (fun p hp=>by
  rw [aB.1 hp]
  exact⟨ac _,heap_alloc_new w _⟩)
theorem Apz.off(hA:Apz O P s){w:World}{q:Nat×Obj}(h:P (q::Z) S w):P Z S w:=hA.less [q] Z S w h
def ze4(O:Ops σ)(S:σ)(i b c:Int):σ:=if Wv.pk b 3=0 then(O.drp S i).1 else if Wv.pk b 3=1 then(O.twc S i).1 else(O.spl S i (Wv.pk c 40) (1+Wv.pk b 255)).1
theorem zwl(hA:Apz O P s)(i:Int)(o:Sp)(hb:Rg o.b)(hc:Rg o.c)(w:World)(hP:P Z S w):
  Calls prog 29 #[sV s,I i,spV o] w fun e w'=>e= .returned (.tuple #[])∧P Z (ze4 O S i o.b o.c) w':=by
 obtain⟨k,r,a,b,c⟩:=o;have hP1:=hA.lit hP ⟨k,r,a,b,c⟩;have HO:Hid (∀S w',P ((w.heap.size,spO ⟨k,r,a,b,c⟩)::Z) S w'->P Z S w'):=fun S w' h=>hA.off h
 have hA:=hA.api ((w.heap.size,spO ⟨k,r,a,b,c⟩)::Z);have HPK:Hid (∀w,Calls prog 7 #[I b,I 3] w fun e w'=>e= .returned (I (Wv.pk b 3))∧w'=w):=fun w=>zaq b 3 w hb ⟨by decide,by decide⟩
 have HPC:Hid (∀w,Calls prog 7 #[I c,I 40] w fun e w'=>e= .returned (I (Wv.pk c 40))∧w'=w):=fun w=>zaq c 40 w hc ⟨by decide,by decide⟩
 have HPB:Hid (∀w,Calls prog 7 #[I b,I 255] w fun e w'=>e= .returned (I (Wv.pk b 255))∧w'=w):=fun w=>zaq b 255 w hb ⟨by decide,by decide⟩
 obtain⟨Pz,hPz⟩:∃Pz,Pz=P ((w.heap.size,spO ⟨k,r,a,b,c⟩)::Z):=⟨_,rfl⟩
 rw [←hPz] at hA hP1 HO;have HD:Hid (Cl Pz 33 #[sV s,I i] (w.alloc (spO ⟨k,r,a,b,c⟩)) (O.drp S i)):=hA.drp S _ i hP1;have HT:Hid (Cl Pz 45 #[sV s,I i] (w.alloc (spO ⟨k,r,a,b,c⟩)) (O.twc S i)):=hA.twc S _ i hP1;have HS:Hid (Cl Pz 46 #[sV s,I i,I (Wv.pk c 40),I (1+Wv.pk b 255)] (w.alloc (spO ⟨k,r,a,b,c⟩)).drew (O.spl S i (Wv.pk c 40) (1+Wv.pk b 255))):=hA.spl S _ i _ _ (hA.bel _ _ _ hP1 (Below.refl _ _).drew);have HL:Hid (ze4 O S i b c=if Wv.pk b 3=0 then(O.drp S i).1 else if Wv.pk b 3=1 then(O.twc S i).1 else(O.spl S i (Wv.pk c 40) (1+Wv.pk b 255)).1):=rfl;show Calls prog 29 #[sV s,I i, .agg #[I k,I r,I a,I b,I c]] w fun e w'=>e= .returned (.tuple #[])∧P Z (ze4 O S i b c) w'
 obtain⟨b0,b1⟩:=pk_lt b 3 (by decide);obtain⟨c0,c1⟩:=pk_lt b 255 (by decide);generalize ze4 O S i b c=Y at *
 generalize Wv.pk b 3=b3 at *
 generalize hb255:Wv.pk b 255=b255 at *
 generalize hc40:Wv.pk c 40=c40 at *
 have hwb:IntKind.i64.wrap (1+b255)=1+b255:=by rw [IntKind.wrap_i64];omega
 have HBR:Hid (Rg b):=hb;have HCR:Hid (Rg c):=hc;clear hP hP1 hPz hA hb hc HPC HPB;have hcs:b3=0∨b3=1∨b3=2:=by omega
 clear b0 b1 c0 c1;go_enter func29,ntmps29;go_wp2_with fail
 refine(HPK.out _).mono ?_;rintro e w1 ⟨rfl,rfl⟩;clear HPK;rcases hcs with rfl | rfl | rfl
 ·go_wp2_with fail
  refine HD.out.mono ?_;rintro e w2 ⟨rfl,h2⟩;have H2:Hid (P Z Y w2):=by show P Z Y w2;rw [HL.out];exact HO.out _ _ h2
  clear h2;go_wp2;go_end0;exact⟨rfl,H2.out⟩
 ·go_wp2_with fail
  refine HT.out.mono ?_;rintro e w2 ⟨rfl,h2⟩;have H2:Hid (P Z Y w2):=by show P Z Y w2;rw [HL.out];exact HO.out _ _ h2
  clear h2;go_wp2;go_end0;exact⟨rfl,H2.out⟩
 ·go_wp2_with fail
  go_region_law (first
   | (go_simp;go_at_call 7;refine(zaq _ _ _ (by first | exact HBR.out | exact HCR.out) (by first | exact⟨by decide,by decide⟩)).mono ?_;rintro e w1 ⟨rfl,hw⟩;rw [hw];clear hw w1;simp only [hb255,hc40])
   | (go_simp;go_at_call 46;refine HS.out.mono ?_;rintro e w2 ⟨rfl,h2⟩;have H2:Hid (P Z Y w2):=(by show P Z Y w2;rw [HL.out];exact HO.out _ _ h2);clear h2))
  all_goals
   (go_wp2
    go_end0
    exact⟨rfl,H2.out⟩)
end
