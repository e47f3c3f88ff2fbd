import Derived.Test.YtfmcngncaffloabGreatDoorJ03KeA
import Derived.Deep.QuietTactic
import Derived.BigQuiet
import Derived.Deep.RegionHeld3
import Derived.Lib.SliceRun
import Derived.Laws.CopyRow
set_option maxHeartbeats 3200000
namespace Go.Proofs.YtfmcngncaffloabGreatDoor
open Go.RowKit Go.Proofs.Tryz Wv
set_option maxRecDepth 100000
theorem zde(w:World)(cs:Array Value)(t:TypeId)(n j:Nat)(hn:n=w.heap.size):(w.alloc (.cells cs t)).drew.cell? ⟨n,j,none⟩=cs[j]?:=Joins.cell_alloc_mark_at w cs t (0,0) n j hn
def cmpI(a b:Int):Int:=if a<b then -1 else if b<a then 1 else 0
def orI(a b c:Int):Int:=if a=0 then(if b=0 then c else b) else a
theorem zuh(a b:Dt):(decide (orI (cmpI a.o b.o) (cmpI a.s b.s) (cmpI a.i b.i)<0))=lessD a b:=by
 unfold orI cmpI lessD;rw [Bool.eq_iff_iff];repeat' split
 all_goals (simp;try omega)
theorem zeb(a b:Int)(w:World):
  Calls prog 102 #[I a,I b] w fun e w'=>e= .returned (I (cmpI a b))∧w'=w:=by
 go_enter func102,ntmps102;go_wp2;all_goals go_ret
 all_goals refine⟨zbo ?_,rfl⟩
 all_goals unfold cmpI
 all_goals (simp_all;try omega)
theorem znw(a b c:Int)(g:Nat)(w:World)(h0:w.cell? ⟨g,0,none⟩=some (I a))(h1:w.cell? ⟨g,1,none⟩=some (I b))(h2:w.cell? ⟨g,2,none⟩=some (I c)):
  Calls prog 101 #[.slice (some ⟨g,0,none⟩) 3 3] w fun e w'=>e= .returned (I (orI a b c))∧w'=w:=by
 go_enter func101,ntmps101;go_wp2;go_rounds 4
 all_goals go_ret
 all_goals refine⟨zbo ?_,rfl⟩
 all_goals unfold orI
 all_goals (simp_all;try omega)
theorem zjc(a b:Dt)(w:World):
  Calls prog 208 #[dotV a,dotV b] w fun e w'=>(∃r:Int,e= .returned (I r)∧(decide (r<0))=lessD a b)∧Below w.heap.size w w':=by
 have k0:Hid (((((w.alloc (.cells #[I a.o,I a.s,I a.i] 125)).alloc (.cells #[I b.o,I b.s,I b.i] 125)).alloc (.cells #[I (cmpI a.o b.o),I (cmpI a.s b.s),I (cmpI a.i b.i)] 3)).drew).cell? ⟨w.heap.size+1+1,0,none⟩=some (I (cmpI a.o b.o))):=zde _ _ _ _ _ (by simp);have k1:Hid (((((w.alloc (.cells #[I a.o,I a.s,I a.i] 125)).alloc (.cells #[I b.o,I b.s,I b.i] 125)).alloc (.cells #[I (cmpI a.o b.o),I (cmpI a.s b.s),I (cmpI a.i b.i)] 3)).drew).cell? ⟨w.heap.size+1+1,1,none⟩=some (I (cmpI a.s b.s))):=zde _ _ _ _ _ (by simp);have k2:Hid (((((w.alloc (.cells #[I a.o,I a.s,I a.i] 125)).alloc (.cells #[I b.o,I b.s,I b.i] 125)).alloc (.cells #[I (cmpI a.o b.o),I (cmpI a.s b.s),I (cmpI a.i b.i)] 3)).drew).cell? ⟨w.heap.size+1+1,2,none⟩=some (I (cmpI a.i b.i))):=zde _ _ _ _ _ (by simp);go_enter func208,ntmps208;go_wp2_with fail
 go_region_held3 (fun w'=>w'.cell? ⟨w.heap.size,0,none⟩=some (I a.o)∧w'.cell? ⟨w.heap.size,1,none⟩=some (I a.s)∧w'.cell? ⟨w.heap.size,2,none⟩=some (I a.i)∧w'.cell? ⟨w.heap.size+1,0,none⟩=some (I b.o)∧w'.cell? ⟨w.heap.size+1,1,none⟩=some (I b.s)∧w'.cell? ⟨w.heap.size+1,2,none⟩=some (I b.i)) (go_keep)
  (first | (go_at_call 102;refine(zeb _ _ _).mono ?_;rintro e w' ⟨rfl,h⟩;subst h) | (go_at_call 101;refine(znw (cmpI a.o b.o) (cmpI a.s b.s) (cmpI a.i b.i) _ _ ?_ ?_ ?_).mono ?_;exact k0.out;exact k1.out;exact k2.out;rintro e w' ⟨rfl,h⟩;subst h))
 go_wp2;go_ret;exact⟨⟨_,rfl,zuh a b⟩,(((((Below.refl _ _).alloc (ac _) _).alloc (by simp) _)).alloc (by simp;omega) _).drew⟩
end Go.Proofs.YtfmcngncaffloabGreatDoor
namespace Go.Proofs.YtfmcngncaffloabGreatDoor
open Go.RowKit Go.Proofs.Tryz Wv
set_option maxRecDepth 100000
structure Stp where
 d:Dt
 t:Int
abbrev stV (s:Stp):Value:= .agg #[I s.d.o,I s.d.s,I s.d.i,I s.t]
def zkj(a b:Stp):Bool:=decide (0<orI (cmpI a.t b.t) (cmpI a.d.o b.d.o) (cmpI a.d.i b.d.i))
theorem zwo(a b:Stp)(w:World):
  Calls prog 238 #[stV a,stV b] w fun e w'=>e= .returned (.bool (zkj a b))∧Below w.heap.size w w':=by
 have k0:Hid (((((w.alloc (.cells #[I a.d.o,I a.d.s,I a.d.i,I a.t] 175)).alloc (.cells #[I b.d.o,I b.d.s,I b.d.i,I b.t] 175)).alloc (.cells #[I (cmpI a.t b.t),I (cmpI a.d.o b.d.o),I (cmpI a.d.i b.d.i)] 3)).drew).cell? ⟨w.heap.size+1+1,0,none⟩=some (I (cmpI a.t b.t))):=zde _ _ _ _ _ (by simp);have k1:Hid (((((w.alloc (.cells #[I a.d.o,I a.d.s,I a.d.i,I a.t] 175)).alloc (.cells #[I b.d.o,I b.d.s,I b.d.i,I b.t] 175)).alloc (.cells #[I (cmpI a.t b.t),I (cmpI a.d.o b.d.o),I (cmpI a.d.i b.d.i)] 3)).drew).cell? ⟨w.heap.size+1+1,1,none⟩=some (I (cmpI a.d.o b.d.o))):=zde _ _ _ _ _ (by simp);have k2:Hid (((((w.alloc (.cells #[I a.d.o,I a.d.s,I a.d.i,I a.t] 175)).alloc (.cells #[I b.d.o,I b.d.s,I b.d.i,I b.t] 175)).alloc (.cells #[I (cmpI a.t b.t),I (cmpI a.d.o b.d.o),I (cmpI a.d.i b.d.i)] 3)).drew).cell? ⟨w.heap.size+1+1,2,none⟩=some (I (cmpI a.d.i b.d.i))):=zde _ _ _ _ _ (by simp);go_enter func238,ntmps238;go_wp2_with fail
 go_region_held3 (fun w'=>w'.cell? ⟨w.heap.size,0,none⟩=some (I a.d.o)∧w'.cell? ⟨w.heap.size,1,none⟩=some (I a.d.s)∧w'.cell? ⟨w.heap.size,2,none⟩=some (I a.d.i)∧w'.cell? ⟨w.heap.size,3,none⟩=some (I a.t)∧w'.cell? ⟨w.heap.size+1,0,none⟩=some (I b.d.o)∧w'.cell? ⟨w.heap.size+1,1,none⟩=some (I b.d.s)∧w'.cell? ⟨w.heap.size+1,2,none⟩=some (I b.d.i)∧w'.cell? ⟨w.heap.size+1,3,none⟩=some (I b.t)) (go_keep)
  (first | (go_at_call 102;refine(zeb _ _ _).mono ?_;rintro e w' ⟨rfl,h⟩;subst h) | (go_at_call 101;refine(znw (cmpI a.t b.t) (cmpI a.d.o b.d.o) (cmpI a.d.i b.d.i) _ _ ?_ ?_ ?_).mono ?_;exact k0.out;exact k1.out;exact k2.out;rintro e w' ⟨rfl,h⟩;subst h))
 go_wp2;go_ret;exact⟨rfl,(((((Below.refl _ _).alloc (ac _) _).alloc (by simp) _)).alloc (by simp;omega) _).drew⟩
end Go.Proofs.YtfmcngncaffloabGreatDoor
namespace Go.Proofs.YtfmcngncaffloabGreatDoor
open Go.RowKit Go.Proofs.Tryz Wv
set_option maxRecDepth 100000
structure El where
 s:Stp
 v:Int
 x:Bool
def El.cells(e:El):List Value:= [I e.s.d.o,I e.s.d.s,I e.s.d.i,I e.s.t,I e.v, .bool e.x]
abbrev elV (e:El):Value:= .agg #[I e.s.d.o,I e.s.d.s,I e.s.d.i,I e.s.t,I e.v, .bool e.x]
theorem zak(e:El):e.cells.length=6:=rfl
def ElsAt(w:World)(p q:Nat)(ls:List El):Prop:=∀k (hk:k<ls.length),w.cell? ⟨p,q+k*6,none⟩=some (I ls[k].s.d.o)∧w.cell? ⟨p,q+k*6+1,none⟩=some (I ls[k].s.d.s)∧w.cell? ⟨p,q+k*6+2,none⟩=some (I ls[k].s.d.i)∧
   w.cell? ⟨p,q+k*6+3,none⟩=some (I ls[k].s.t)∧w.cell? ⟨p,q+k*6+4,none⟩=some (I ls[k].v)∧w.cell? ⟨p,q+k*6+5,none⟩=some (.bool ls[k].x)
theorem zn8{w:World}{ea:Option Addr}{ls:List El}(h:At w ea (flat El.cells ls))(hn:0<ls.length):∃p q,ea=some ⟨p,q,none⟩∧p<w.heap.size∧ElsAt w p q ls:=by
 obtain⟨p,q,e,hp,hc⟩:=h.first (by rw [zan _ 6 zak];omega);refine⟨p,q,e,hp,fun k hk=>⟨?_, ?_, ?_, ?_, ?_, ?_⟩⟩
 ·have:=hc (k*6+0) _ ((zao El.cells 6 zak ls k hk 0 (by omega)).trans rfl);simpa using this
 ·have:=hc (k*6+1) _ ((zao El.cells 6 zak ls k hk 1 (by omega)).trans rfl);simpa [Nat.add_assoc] using this
 ·have:=hc (k*6+2) _ ((zao El.cells 6 zak ls k hk 2 (by omega)).trans rfl);simpa [Nat.add_assoc] using this
 ·have:=hc (k*6+3) _ ((zao El.cells 6 zak ls k hk 3 (by omega)).trans rfl);simpa [Nat.add_assoc] using this
 ·have:=hc (k*6+4) _ ((zao El.cells 6 zak ls k hk 4 (by omega)).trans rfl);simpa [Nat.add_assoc] using this
 ·have:=hc (k*6+5) _ ((zao El.cells 6 zak ls k hk 5 (by omega)).trans rfl);simpa [Nat.add_assoc] using this
theorem ElsAt.kept{w w':World}{p q:Nat}{ls:List El}(h:ElsAt w p q ls)(hb:Below w.heap.size w w'):ElsAt w' p q ls:=fun k hk=>by
 obtain⟨h0,h1,h2,h3,h4,h5⟩:=h k hk;exact⟨zaa hb h0,zaa hb h1,zaa hb h2,zaa hb h3,zaa hb h4,zaa hb h5⟩
def dotIs(d:Dt)(e:El):Bool:=eq3 e.s.d.o e.s.d.s e.s.d.i d.o d.s d.i
def zax(f:El->Bool)(ls:List El):Int:=match ls.findIdx? f with | some k=>(k:Int) | none=> -1
theorem zmu(f:El->Bool)(ls:List El)(k:Nat)(hk:k<ls.length)(h:f ls[k]=true)(hn:∀j (hj:j<ls.length),j<k->f ls[j]=false):zax f ls=k:=by
 unfold zax;rw [List.findIdx?_eq_some_iff_getElem.2 ⟨hk,h,fun j hj=>by rw [hn j (by omega) hj];simp⟩]
theorem zi2(f:El->Bool)(ls:List El)(hn:∀j (hj:j<ls.length),f ls[j]=false):zax f ls= -1:=by
 unfold zax;rw [List.findIdx?_eq_none_iff.2 (fun x hx=>by obtain⟨j,hj,rfl⟩:=aI.1 hx;exact hn j hj)]
attribute [local go_sem ↓] zfk zfi
theorem zrb(e:El)(g:Nat)(d:Dt)(w:World)(h0:w.cell? ⟨g,0,none⟩=some (I d.o))(h1:w.cell? ⟨g,1,none⟩=some (I d.s))(h2:w.cell? ⟨g,2,none⟩=some (I d.i)):
  Calls prog 321 #[elV e, .pointer (some ⟨g,0,none⟩)] w fun r w'=>r= .returned (.bool (dotIs d e))∧Below w.heap.size w w':=by
 have hg:=zad h0;have k0:=zaa ((Below.refl w.heap.size w).alloc (ac _) (.cells #[I e.s.d.o,I e.s.d.s,I e.s.d.i,I e.s.t,I e.v, .bool e.x] 365)) h0;have k1:=zaa ((Below.refl w.heap.size w).alloc (ac _) (.cells #[I e.s.d.o,I e.s.d.s,I e.s.d.i,I e.s.t,I e.v, .bool e.x] 365)) h1;have k2:=zaa ((Below.refl w.heap.size w).alloc (ac _) (.cells #[I e.s.d.o,I e.s.d.s,I e.s.d.i,I e.s.t,I e.v, .bool e.x] 365)) h2;go_enter func321,ntmps321;go_wp2;go_ret;exact⟨rfl,(Below.refl _ _).alloc (ac _) _⟩
theorem zgm(e:El)(w:World):
  Calls prog 319 #[elV e] w fun r w'=>r= .returned (.bool e.x)∧Below w.heap.size w w':=by
 go_enter func319,ntmps319;go_wp2;go_ret;exact⟨rfl,(Below.refl _ _).alloc (ac _) _⟩
theorem zws(p q c:Nat)(ls:List El)(g:Nat)(d:Dt)(w:World)(hat:ElsAt w p q ls)(h0:w.cell? ⟨g,0,none⟩=some (I d.o))(h1:w.cell? ⟨g,1,none⟩=some (I d.s))(h2:w.cell? ⟨g,2,none⟩=some (I d.i))(hl:ls.length<=1048576):
  Calls prog 320 #[.slice (some ⟨p,q,none⟩) ls.length c, .func (.func 321) #[] #[.pointer (some ⟨g,0,none⟩)]] w fun e w'=>e= .returned (I (zax (dotIs d) ls))∧Below w.heap.size w w':=by
 have HAT:Hid (ElsAt w p q ls):=hat;clear hat;go_enter func320,ntmps320;go_wp2_with fail
 go_loopw [8] (fun x wr=>∃k:Nat,k<=ls.length∧x=I k∧Hid (∀j (hj:j<ls.length),j<k->(dotIs d) ls[j]=false)∧Hid (Below w.heap.size w wr)) (fun x _=>ls.length - (intOf x).toNat)
 case atStart=>exact⟨0,az _,rfl,fun j hj h=>absurd h (by omega),Below.refl _ _⟩
 case round=>
  obtain⟨k,hk,rfl,HN,HB⟩:=hrel;by_cases hlt:k<ls.length
  ·obtain⟨e0,e1,e2,e3,e4,e5⟩:=(HAT.out.kept HB.out) k hlt
   have hki:(k:Int)<ls.length:=by omega
   go_wp2_with fail
   refine(zrb ls[k] g d wr (zaa HB.out h0) (zaa HB.out h1) (zaa HB.out h2)).mono ?_;rintro e w1 ⟨rfl,hb1⟩;have HB1:Hid (Below w.heap.size w w1):=HB.out.trans (hb1.mono HB.out.size);clear hb1;generalize hfk:(dotIs d) ls[k]=b at *
   cases b
   ·go_wp2_with fail
    go_roundw
    case rel=>
     refine⟨k+1,hlt,by go_num,fun j hj h=> ?_,HB1⟩;by_cases hjk:j=k
     ·subst hjk;exact hfk
     ·exact HN.out j hj (by omega)
    case measure=>simp [intOf];omega
   ·have HI:Hid (zax (dotIs d) ls=k):=zmu (dotIs d) ls k hlt hfk HN.out
    go_wp2;go_ret;exact⟨zbo HI.out.symm,HB1.out⟩
  ·obtain rfl:k=ls.length:=by omega
   have HI:Hid (zax (dotIs d) ls= -1):=zi2 (dotIs d) ls (fun j hj=>HN.out j hj hj);go_wp2;go_ret;exact⟨zbo HI.out.symm,HB.out⟩
theorem znz(p q c:Nat)(ls:List El)(w:World)(hat:ElsAt w p q ls)(hl:ls.length<=1048576):
  Calls prog 320 #[.slice (some ⟨p,q,none⟩) ls.length c, .func (.func 319) #[] #[]] w fun e w'=>e= .returned (I (zax (El.x) ls))∧Below w.heap.size w w':=by
 have HAT:Hid (ElsAt w p q ls):=hat;clear hat;go_enter func320,ntmps320;go_wp2_with fail
 go_loopw [8] (fun x wr=>∃k:Nat,k<=ls.length∧x=I k∧Hid (∀j (hj:j<ls.length),j<k->(El.x) ls[j]=false)∧Hid (Below w.heap.size w wr)) (fun x _=>ls.length - (intOf x).toNat)
 case atStart=>exact⟨0,az _,rfl,fun j hj h=>absurd h (by omega),Below.refl _ _⟩
 case round=>
  obtain⟨k,hk,rfl,HN,HB⟩:=hrel;by_cases hlt:k<ls.length
  ·obtain⟨e0,e1,e2,e3,e4,e5⟩:=(HAT.out.kept HB.out) k hlt
   have hki:(k:Int)<ls.length:=by omega
   go_wp2_with fail
   refine(zgm ls[k] wr).mono ?_;rintro e w1 ⟨rfl,hb1⟩;have HB1:Hid (Below w.heap.size w w1):=HB.out.trans (hb1.mono HB.out.size);clear hb1;generalize hfk:(El.x) ls[k]=b at *
   cases b
   ·go_wp2_with fail
    go_roundw
    case rel=>
     refine⟨k+1,hlt,by go_num,fun j hj h=> ?_,HB1⟩;by_cases hjk:j=k
     ·subst hjk;exact hfk
     ·exact HN.out j hj (by omega)
    case measure=>simp [intOf];omega
   ·have HI:Hid (zax (El.x) ls=k):=zmu (El.x) ls k hlt hfk HN.out
    go_wp2;go_ret;exact⟨zbo HI.out.symm,HB1.out⟩
  ·obtain rfl:k=ls.length:=by omega
   have HI:Hid (zax (El.x) ls= -1):=zi2 (El.x) ls (fun j hj=>HN.out j hj hj);go_wp2;go_ret;exact⟨zbo HI.out.symm,HB.out⟩
end Go.Proofs.YtfmcngncaffloabGreatDoor
namespace Go.Proofs.YtfmcngncaffloabGreatDoor
open Go.RowKit Go.Proofs.Tryz Wv
set_option maxRecDepth 100000
theorem zlt(a:Option Addr)(c g:Nat)(w:World):
  Calls prog 320 #[.slice a 0 c, .func (.func 321) #[] #[.pointer (some ⟨g,0,none⟩)]] w fun e w'=>e= .returned (I (-1))∧Below w.heap.size w w':=by
 go_enter func320,ntmps320;go_wp2;go_rounds 1
 go_ret;exact⟨rfl,Below.refl _ _⟩
theorem zet(a:Option Addr)(c:Nat)(w:World):
  Calls prog 320 #[.slice a 0 c, .func (.func 319) #[] #[]] w fun e w'=>e= .returned (I (-1))∧Below w.heap.size w w':=by
 go_enter func320,ntmps320;go_wp2;go_rounds 1
 go_ret;exact⟨rfl,Below.refl _ _⟩
theorem zhq(f:El->Bool)(ls:List El)(hl:ls.length<=1048576): -1<=zax f ls∧zax f ls<=1048576:=by
 unfold zax;split
 ·rename_i k h
  obtain⟨hk,_⟩:=List.findIdx?_eq_some_iff_getElem.1 h;omega
 ·omega
theorem zle(p:Nat)(d:Dt)(a:Option Addr)(c:Nat)(ls:List El)(w:World)(h:w.cell? ⟨p,0,none⟩=some (.slice a ls.length c))(hat:At w a (flat El.cells ls))(hl:ls.length<=1048576):
  Calls prog 316 #[.pointer (some ⟨p,0,none⟩),dotV d] w fun e w'=>e= .returned (I (1+zax (dotIs d) ls))∧Below w.heap.size w w':=by
 have HB:Hid (Below w.heap.size w (w.alloc (.cells #[I d.o,I d.s,I d.i] 125))):=(Below.refl _ _).alloc (ac _) _;have h2:(w.alloc (.cells #[I d.o,I d.s,I d.i] 125)).cell? ⟨p,0,none⟩=some (.slice a ls.length c):=zaa HB.out h;have HA:Hid (At (w.alloc (.cells #[I d.o,I d.s,I d.i] 125)) a (flat El.cells ls)):=hat.kept HB.out;have HK:Hid (Blk (w.alloc (.cells #[I d.o,I d.s,I d.i] 125)) w.heap.size #[I d.o,I d.s,I d.i] 125):=heap_alloc_new w _;clear hat h;go_enter func316,ntmps316;go_wp2_with fail
 generalize w.alloc (.cells #[I d.o,I d.s,I d.i] 125)=wA at *
 by_cases hn:0<ls.length
 ·obtain⟨p1,q1,rfl,_,hE⟩:=zn8 HA.out hn
  refine(zws p1 q1 c ls w.heap.size d wA hE (HK.out.cell 0) (HK.out.cell 1) (HK.out.cell 2) hl).mono ?_;rintro e w1 ⟨rfl,hb⟩;have HB1:Hid (Below w.heap.size w w1):=HB.out.trans (hb.mono HB.out.size);have hr: -1<=zax (dotIs d) ls∧zax (dotIs d) ls<=1048576:=zhq _ _ hl;clear hb;generalize hfi:zax (dotIs d) ls=r at *
  go_wp2;go_ret;exact⟨zbo (by rw [hfi]),HB1.out⟩
 ·obtain rfl:ls= []:=aw (by omega)
  refine(zlt a c w.heap.size wA).mono ?_;rintro e w1 ⟨rfl,hb⟩;have HB1:Hid (Below w.heap.size w w1):=HB.out.trans (hb.mono HB.out.size);clear hb;go_wp2;go_ret;exact⟨zbo (by simp [zax]),HB1.out⟩
end Go.Proofs.YtfmcngncaffloabGreatDoor
namespace Go.Proofs.YtfmcngncaffloabGreatDoor
open Go.RowKit Go.Proofs.Tryz Wv
set_option maxRecDepth 100000
theorem zid:(prog.info? 365).map (fun i=>(i.zero,i.size,i.bytes))=some (some (.agg #[.int .i64 0, .int .i64 0, .int .i64 0, .int .i64 0, .int .i64 0, .bool false]),6,48):=by kernel_rfl
theorem zg1(ls:List El):∀u∈flat El.cells ls,u.oneCell'=true:=by
 induction ls with
 | nil=>intro u hu;cases hu
 | cons e ls ih=>
  intro u hu;simp only [flat,ao] at hu;rcases hu with h | h
  ·simp only [El.cells,ar,List.mem_nil_iff,or_false] at h
   rcases h with rfl | rfl | rfl | rfl | rfl | rfl<;>rfl
  ·exact ih u h
theorem zxw{w w1:World}{v1:Value}{ls:List El}{o:Obj}(hown1:w1.ownsRow w.heap.size 365 6 v1 (0+ls.length) ([]++flat El.cells ls))(hgrow1:(w.alloc o).grownBy w1 (Value.slice (some ⟨w.heap.size,0,none⟩) 0 0).ownBlock):
  w1.ownsRow w.heap.size 365 6 v1 ls.length (flat El.cells ls)∧Below w.heap.size w w1:=by
 rw [aV,List.nil_append] at hown1;refine⟨hown1,((Below.refl w.heap.size w).alloc (ac _) o).grown hgrow1 (by simp) (fun k e=> ?_)⟩;have:w.heap.size=k:=by simpa [Value.ownBlock] using e
 omega
theorem zk6(p q c:Nat)(ls:List El)(w:World)(hat:At w (some ⟨p,q,none⟩) (flat El.cells ls))(hl:ls.length<=1048576):
  Calls prog 310 #[.slice (some ⟨p,q,none⟩) ls.length c] w fun e w'=>∃v,e= .returned v∧w'.ownsRow w.heap.size 365 6 v ls.length (flat El.cells ls)∧Below w.heap.size w w':=by
 have HA:Hid (At (w.alloc (.cells #[] 365)) (some ⟨p,q,none⟩) (flat El.cells ls)):=hat.kept ((Below.refl _ _).alloc (ac _) _);have hnil:=Lib.run_eql_slice_nil (P:=prog) w 206 365 (some ⟨p,q,none⟩) ls.length c 0 0 underlying206;have OL:Hid ((w.alloc (.cells #[] 365)).ownsRow w.heap.size 365 6 (.slice (some ⟨w.heap.size,0,none⟩) 0 0) 0 []):=⟨rfl, .inr ⟨w.heap.size,0, #[],rfl,ac _,heap_alloc_new w _,ac _,by unfold maxLen;omega,rfl,rfl⟩⟩
 obtain⟨i,HI⟩:∃i,Hid (prog.info? 365=some i∧i.zero=some (.agg #[.int .i64 0, .int .i64 0, .int .i64 0, .int .i64 0, .int .i64 0, .bool false])∧i.size=6∧i.bytes=48):=by obtain⟨i,h⟩:=info_parts zid;exact⟨i,h⟩
 have n1:0+ls.length<=maxLen:=by unfold maxLen;omega
 have n2:(0+ls.length)*48<=140737488355328:=by omega
 have n3:w.heap.size<=(w.alloc (.cells #[] 365)).heap.size:=by simp
 have n4:(flat El.cells ls).length=ls.length*6:=zan El.cells 6 zak ls;have n5:=zg1 ls
 have HN:Hid (∀j u,(flat El.cells ls)[j]?=some u->(w.alloc (.cells #[] 365)).cell? ((⟨p,q,none⟩:Addr).add j)=some u):=fun j u hj=>by
  obtain⟨b,o,e,hc⟩:=HA.out j u hj;cases e
  rw [Addr.add_lit];exact hc
 clear hat;go_enter func310,ntmps310;go_wp2_with (first | (at_builtin;refine wpList_append_own_at _ rfl _ _ _ rfl w.heap.size 365 i (.agg #[.int .i64 0, .int .i64 0, .int .i64 0, .int .i64 0, .int .i64 0, .bool false]) 6 48 underlying206 HI.out.1 HI.out.2.1 HI.out.2.2.1 HI.out.2.2.2 rfl (by decide) (.slice (some ⟨w.heap.size,0,none⟩) 0 0) 0 [] rfl OL.out ⟨p,q,none⟩ ls.length c (flat El.cells ls) rfl n4 HN.out n5 n1 n2 n3 ?_;intro v1 w1 hown1 hgrow1 hnil1 hat1;have HO:Hid (w1.ownsRow w.heap.size 365 6 v1 ls.length (flat El.cells ls)∧Below w.heap.size w w1):=zxw hown1 hgrow1;clear hown1 hgrow1 hnil1 hat1))
 go_ret;exact⟨_,rfl,HO.out.1,HO.out.2⟩
end Go.Proofs.YtfmcngncaffloabGreatDoor
namespace Go.Proofs.YtfmcngncaffloabGreatDoor
open Go.RowKit Go.Proofs.Tryz Wv
set_option maxRecDepth 100000
structure Rw(w:World)(g:Nat)(cs:List El):Prop where
 row:∃cur:Array Value,Blk w g cur 365∧cs.length*6<=cur.size∧∀j,j<cs.length*6->cur[j]?=(flat El.cells cs)[j]?
theorem Rw.lt{w:World}{g:Nat}{cs:List El}(h:Rw w g cs):g<w.heap.size:=by
 obtain⟨cur,hB,_⟩:=h.row;exact hB.lt
theorem Rw.els{w:World}{g:Nat}{cs:List El}(h:Rw w g cs):ElsAt w g 0 cs:=by
 obtain⟨cur,hB,hs,hc⟩:=h.row
 have hx:∀k (hk:k<cs.length) j (hj:j<6),w.cell? ⟨g,0+k*6+j,none⟩=(cs[k].cells)[j]?:=fun k hk j hj=>by
  rw [hB.cell,aV,hc _ (by omega)];exact zao El.cells 6 zak cs k hk j hj
 exact fun k hk=>⟨hx k hk 0 (by omega),hx k hk 1 (by omega),hx k hk 2 (by omega),hx k hk 3 (by omega),hx k hk 4 (by omega),hx k hk 5 (by omega)⟩
theorem Rw.kept{w w':World}{g:Nat}{cs:List El}(h:Rw w g cs)(hb:Below w.heap.size w w'):Rw w' g cs:=by
 obtain⟨cur,hB,r⟩:=h.row;exact⟨cur,hB.kept hb hB.lt,r⟩
theorem Rw.free{w:World}{g:Nat}{cs:List El}(h:Rw w g cs)(j:Nat):w.frozen? ⟨g,j,none⟩=false:=by
 obtain⟨cur,hB,_⟩:=h.row;exact hB.frozen j
theorem Rw.of_own{w:World}{base g n cap:Nat}{cs:List El}(hn:n=cs.length)(h:w.ownsRow base 365 6 (.slice (some ⟨g,0,none⟩) n cap) n (flat El.cells cs)):Rw w g cs∧base<=g:=by
 subst hn;rcases h.2 with⟨e1,_⟩ | ⟨g',cap',cur,e1,hb,hc,h3,h4,h5,h6⟩
 ·cases e1
 ·cases e1
  refine⟨⟨cur,hc,by rw [h5];exact Nat.mul_le_mul_right _ h3,fun j hj=> ?_⟩,hb⟩;have:(cur.toList.take (cs.length*6))[j]?=(flat El.cells cs)[j]?:=by rw [h6]
  rw [aL hj] at this;simpa using this
abbrev put6 (w:World) (g o:Nat) (e:El):World:=(((((w.setCell ⟨g,o,none⟩ (I e.s.d.o)).setCell ⟨g,o+1,none⟩ (I e.s.d.s)).setCell ⟨g,o+2,none⟩ (I e.s.d.i)).setCell ⟨g,o+3,none⟩ (I e.s.t)).setCell ⟨g,o+4,none⟩ (I e.v)).setCell ⟨g,o+5,none⟩ (.bool e.x)
theorem zr5{w0 w:World}(h:Below w0.heap.size w0 w){g:Nat}(hg:w0.heap.size<=g)(o:Nat)(e:El):Below w0.heap.size w0 (put6 w g o e):=
 (((((h.setCell hg _).setCell hg _).setCell hg _).setCell hg _).setCell hg _).setCell hg _
theorem zfx{α:Type}(f:α->List Value)(n:Nat)(hf:∀x,(f x).length=n)(l:List α)(k:Nat)(x:α)(j:Nat)(hj:j<l.length*n):
  (flat f (l.set k x))[j]?=if k*n<=j∧j<k*n+n then(f x)[j - k*n]? else(flat f l)[j]?:=by
 have hn:0<n:=by
  rcases Nat.eq_zero_or_pos n with h | h
  ·subst h;omega
  ·exact h
 have hq:j / n<l.length:=Nat.div_lt_of_lt_mul (by rw [Nat.mul_comm];exact hj);have hr:j % n<n:=Nat.mod_lt _ hn;have e:j=j / n*n+j % n:=by rw [Nat.mul_comm];exact(Nat.div_add_mod j n).symm
 have h1:=zao f n hf (l.set k x) (j / n) (by simpa using hq) (j % n) hr;have h2:=zao f n hf l (j / n) hq (j % n) hr;rw [←e] at h1 h2;rw [h1,h2];by_cases hkq:k=j / n
 ·have hc:k*n<=j∧j<k*n+n:=by rw [hkq];omega
  rw [aA hc];have:j - k*n=j % n:=by rw [hkq];omega
  rw [this];simp [hkq]
 ·have hc:¬(k*n<=j∧j<k*n+n):=by
   rintro⟨ha,hb⟩;apply hkq;have hb':j<(k+1)*n:=by rw [Nat.add_mul];omega
   exact(Nat.div_eq_of_lt_le ha hb').symm
  rw [ap hc];simp [hkq]
theorem Rw.put{w:World}{g:Nat}{cs:List El}(h:Rw w g cs)(k:Nat)(e:El):Rw (put6 w g (k*6) e) g (cs.set k e):=by
 obtain⟨cur,hB,hs,hc⟩:=h.row;refine⟨_,(((((hB.set _ _).set _ _).set _ _).set _ _).set _ _).set _ _,by simpa using hs,fun j hj=> ?_⟩;have hj':j<cs.length*6:=by simpa using hj
 rw [zfx El.cells 6 zak cs k e j hj'];simp only [Array.getElem?_setIfInBounds,Array.size_setIfInBounds];have hjs:j<cur.size:=by omega
 by_cases h0:j=k*6
 ·subst h0;simp [El.cells,hjs]
 by_cases h1:j=k*6+1
 ·subst h1;simp [El.cells,hjs]
 by_cases h2:j=k*6+2
 ·subst h2;simp [El.cells,hjs]
 by_cases h3:j=k*6+3
 ·subst h3;simp [El.cells,hjs]
 by_cases h4:j=k*6+4
 ·subst h4;simp [El.cells,hjs]
 by_cases h5:j=k*6+5
 ·subst h5;simp [El.cells,hjs]
 rw [ap (by omega),ap (by omega),ap (by omega),ap (by omega),ap (by omega),ap (by omega),ap (by omega)];exact hc j hj'
end Go.Proofs.YtfmcngncaffloabGreatDoor
namespace Go.Proofs.YtfmcngncaffloabGreatDoor
open Go.RowKit Go.Proofs.Tryz Wv
set_option maxRecDepth 100000
theorem zx7(n:Nat):∀u∈(Builtin.zeroCells (#[Value.int .i64 0, .int .i64 0, .int .i64 0, .int .i64 0, .int .i64 0, .bool false]:Array Value) n).toList,u.oneCell'=true:=by
 intro u hu;simp only [Builtin.zeroCells,Array.toList_map,aG] at hu;obtain⟨i,_,rfl⟩:=hu;have h:i % 6<6:=Nat.mod_lt _ (by decide);show(#[Value.int .i64 0, .int .i64 0, .int .i64 0, .int .i64 0, .int .i64 0, .bool false][i % 6]!).oneCell'=true;generalize i % 6=r at h;have:r=0∨r=1∨r=2∨r=3∨r=4∨r=5:=by omega
 rcases this with rfl | rfl | rfl | rfl | rfl | rfl<;>rfl
theorem Rw.take{w:World}{g:Nat}{cs:List El}(h:Rw w g cs)(k:Nat):Rw w g (cs.take k):=by
 obtain⟨cur,hB,hs,hc⟩:=h.row;have hl:(cs.take k).length<=cs.length:=by rw [al];omega
 refine⟨cur,hB,by omega,fun j hj=> ?_⟩;rw [hc j (by omega)];have hq:j / 6<(cs.take k).length:=Nat.div_lt_of_lt_mul (by omega);have hr:j % 6<6:=Nat.mod_lt _ (by decide);have e:j=j / 6*6+j % 6:=by omega
 rw [e,zao El.cells 6 zak cs (j / 6) (by omega) _ hr,zao El.cells 6 zak (cs.take k) (j / 6) hq _ hr];simp
theorem zlp(w:World)(ty:TypeId)(g k n c:Nat)(cs:List El)(h:Rw w g cs)(hn:k+n=cs.length):
  ∃w',(Builtin.clear_ #[206] ty #[.slice (some ⟨g,k*6,none⟩) n c]).run prog w= .ok (.tuple #[]) w'∧Rw w' g (cs.take k)∧w.grownBy w' (some g):=by
 have h':=h;obtain⟨cur,hB,hs,hc⟩:=h.row;rcases Nat.eq_zero_or_pos n with rfl | hpos
 ·exact⟨w,by simp [Builtin.clear_,run_underlying underlying206],h'.take k,⟨rfl,rfl,rfl,ac _,fun _ _ _=>rfl⟩⟩
 ·obtain⟨i,hi,hz,hsz,_⟩:=info_parts zid
  obtain⟨Z,hZ⟩:∃Z,Z=(Builtin.zeroCells (#[Value.int .i64 0, .int .i64 0, .int .i64 0, .int .i64 0, .int .i64 0, .bool false]:Array Value) n).toList:=⟨_,rfl⟩
  have hzl:Z.length=n*6:=by rw [hZ];simp [Builtin.zeroCells]
  have hst:=run_storeCells_at (P:=prog) g (k*6) 365 Z 0 cur w hB (by omega) (by rw [hZ];exact zx7 n);simp only [Nat.add_zero] at hst;refine⟨w.setRow g (cur.toList.take (k*6)++Z++cur.toList.drop (k*6+Z.length)).toArray, ?_,⟨_,setRow_heap w g cur _ _ _ hB, ?_,fun j hj=> ?_⟩,⟨rfl,rfl,rfl,by simp,fun j _ hj=>setRow_other w g j _ (fun e=>hj (by rw [e]))⟩⟩
  ·obtain⟨m,rfl⟩:∃m,n=m+1:=⟨n - 1,by omega⟩
   simp [Builtin.clear_,run_underlying underlying206,zeroValue,typeInfo,hi,hz,Value.cells,←hZ,hst]
  ·rw [al]
   simp only [List.size_toArray,ah,al,aP,Array.length_toList,hzl];omega
  ·have hj':j<k*6:=by rw [al] at hj;omega
   obtain⟨cur2,hB2,_,hc2⟩:=(h'.take k).row;obtain rfl:cur2=cur:=by have:=hB2.symm.trans hB;simpa using this
   rw [←hc2 j hj,au,List.getElem?_toArray,List.getElem?_append_left (by rw [al,Array.length_toList];omega),aL hj'];simp
end Go.Proofs.YtfmcngncaffloabGreatDoor
namespace Go.Proofs.YtfmcngncaffloabGreatDoor
open Go.RowKit Go.Proofs.Tryz Wv
set_option maxRecDepth 100000
def stands(ls:List El):List El:=ls.filter (fun e=> !e.x)
theorem zrv(ls:List El)(h:zax El.x ls= -1):stands ls=ls:=by
 unfold stands;rw [List.filter_eq_self];intro e he;unfold zax at h;split at h
 ·omega
 ·rename_i hn
  have:=List.findIdx?_eq_none_iff.1 hn e he;simp [this]
theorem zqd(f:El->Bool)(ls:List El)(h:¬zax f ls= -1):∃k:Nat,zax f ls=k∧∃hk:k<ls.length,f ls[k]=true∧∀j (hj:j<k),f (ls[j]'(by omega))=false:=by
 unfold zax at h ⊢;split
 ·rename_i k hk
  obtain⟨h1,h2,h3⟩:=List.findIdx?_eq_some_iff_getElem.1 hk;exact⟨k,rfl,h1,h2,fun j hj=>by simpa using h3 j hj⟩
 ·rename_i hn
  rw [hn] at h;simp at h
theorem zfg(ls:List El)(e:El):stands (ls++ [e])=stands ls++(if e.x then [] else [e]):=by
 unfold stands;cases h:e.x<;>simp [h]
theorem zff(ls:List El)(j:Nat)(hj:j<ls.length):ls.take (j+1)=ls.take j++ [ls[j]]:=aC hj
theorem setTake(cs:List El)(i:Nat)(e:El)(h:i<cs.length):(cs.set i e).take (i+1)=cs.take i++ [e]:=by
 rw [zff _ _ (by simpa using h),List.take_set_of_le (ac _)];simp
theorem zo0(ls:List El)(h:∀e∈ls,e.x=false):stands ls=ls:=by
 unfold stands;rw [List.filter_eq_self];intro e he;simp [h e he]
theorem del_any(g c:Nat)(ls:List El)(w w0:World)(hb:Below w0.heap.size w0 w)(hg:w0.heap.size<=g)(h:Rw w g ls)(hl:ls.length<=1048576)(hc:ls.length<=c):
    Calls prog 318 #[.slice (some ⟨g,0,none⟩) ls.length c, .func (.func 319) #[] #[]] w fun e w'=>(∃m,e= .returned (.slice (some ⟨g,0,none⟩) m c)∧m=(stands ls).length)∧Rw w' g (stands ls)∧Below w0.heap.size w0 w':=by
  have HR:Hid (Rw w g ls):=h;have HB:Hid (Below w0.heap.size w0 w):=hb;clear h hb;go_enter func318,ntmps318;go_wp2_with fail
  by_cases hn:0<ls.length
  . refine (znz g 0 c ls w HR.out.els hl).mono ?_;rintro e w1 ⟨rfl,hb1⟩;have HB1:Hid (Below w0.heap.size w0 w1):=HB.out.trans (hb1.mono HB.out.size);have HR1:Hid (Rw w1 g ls):=HR.out.kept hb1;clear hb1 HR HB;have hr:=zhq El.x ls hl;by_cases hneg:zax El.x ls= -1
    . have HS:Hid (stands ls=ls):=zrv ls hneg;rw [hneg];go_wp2;go_ret;exact⟨⟨_,rfl,by rw [HS.out]⟩,by rw [HS.out];exact HR1.out,HB1.out⟩
    . obtain⟨k0,hk0,hkl,hkx,hkn⟩:=zqd El.x ls hneg
      have HT0:Hid (ls.take k0=stands (ls.take (k0+1))):=by
        show _=_;rw [zff ls k0 hkl,zfg,hkx,zo0]
        . simp
        . intro e he;obtain⟨j,hj,rfl⟩:=aI.1 he;have hj':j<k0:=by rw [al] at hj;omega
          simpa using hkn j hj'
      have hk1:¬((k0:Int)= -1):=by omega
      rw [hk0];clear hneg hr hkx hkn hk0;have hkb:((k0:Int)== -1)=false:=by simp
      go_wp2_with fail
      go_loopw [5,6] (fun xi xj wr=>∃(i j:Nat) (cs:List El),i<j∧j<=ls.length∧xi=I i∧xj=I j∧Hid (cs.length=ls.length)∧Hid (cs.take i=stands (ls.take j))∧Hid (∀k,j<=k->cs[k]?=ls[k]?)∧Hid (Rw wr g cs)∧Hid (Below w0.heap.size w0 wr)) (fun _ xj _=>ls.length - (intOf xj).toNat)
      case atStart=>exact⟨k0,k0+1,ls,by omega,hkl,rfl,by go_num,rfl,HT0,fun _ _=>rfl,HR1,HB1⟩
      case round=>
        obtain⟨i,j,cs,hij,hj,rfl,rfl,HCL,HCT,HCR,HR,HB⟩:=hrel;clear HR1 HB1 HT0;by_cases hlt:j<ls.length
        . have hji:(j:Int)<ls.length:=by omega
          have hjc:j<cs.length:=by rw [HCL.out];exact hlt
          have hic:i<cs.length:=by omega
          obtain⟨e0,e1,e2,e3,e4,e5⟩:=HR.out.els j hjc
          have HE:Hid (cs[j]=ls[j]):=by
            have:=HCR.out j (ac _);rw [ag hjc,ag hlt] at this;exact Option.some.inj this
          have HTS:Hid (ls.take (j+1)=ls.take j++ [ls[j]]):=zff ls j hlt;rw [←HE.out] at HTS;clear HE;have hgl:=HR.out.lt;simp only [aV] at e0 e1 e2 e3 e4 e5;generalize cs[j]=e at *
          have HV:Hid (Below wr.heap.size wr (wr.alloc (.cells #[I e.s.d.o,I e.s.d.s,I e.s.d.i,I e.s.t,I e.v, .bool e.x] 365))):=(Below.refl _ _).alloc (ac _) _;have HVK:Hid (Blk (wr.alloc (.cells #[I e.s.d.o,I e.s.d.s,I e.s.d.i,I e.s.t,I e.v, .bool e.x] 365)) wr.heap.size #[I e.s.d.o,I e.s.d.s,I e.s.d.i,I e.s.t,I e.v, .bool e.x] 365):=heap_alloc_new wr _;go_wp2_with fail
          refine(zgm e _).mono ?_;rintro r w2 ⟨rfl,hb2⟩;have HB2:Hid (Below w0.heap.size w0 w2):=HB.out.trans ((HV.out.trans (hb2.mono (by simp))).mono HB.out.size);have HR2:Hid (Rw w2 g cs):=HR.out.kept (HV.out.trans (hb2.mono (by simp)));have HK2:Hid (Blk w2 wr.heap.size #[I e.s.d.o,I e.s.d.s,I e.s.d.i,I e.s.t,I e.v, .bool e.x] 365):=HVK.out.kept hb2 HVK.out.lt;clear HV HVK hb2 HR HB e0 e1 e2 e3 e4 e5;generalize hx:e.x=bx at *
          cases bx
          . obtain⟨e0,e1,e2,e3,e4,e5⟩:=HR2.out.els i hic;simp only [aV] at e0 e1 e2 e3 e4 e5;have f0:=HR2.out.free (i*6);have f1:=HR2.out.free (i*6+1);have f2:=HR2.out.free (i*6+2);have f3:=HR2.out.free (i*6+3);have f4:=HR2.out.free (i*6+4);have f5:=HR2.out.free (i*6+5);have v0:w2.cell? ⟨wr.heap.size,0,none⟩=some (I e.s.d.o):=HK2.out.cell 0;have v1:w2.cell? ⟨wr.heap.size,1,none⟩=some (I e.s.d.s):=HK2.out.cell 1;have v2:w2.cell? ⟨wr.heap.size,2,none⟩=some (I e.s.d.i):=HK2.out.cell 2;have v3:w2.cell? ⟨wr.heap.size,3,none⟩=some (I e.s.t):=HK2.out.cell 3;have v4:w2.cell? ⟨wr.heap.size,4,none⟩=some (I e.v):=HK2.out.cell 4;have v5:w2.cell? ⟨wr.heap.size,5,none⟩=some (.bool false):=HK2.out.cell 5;have hii:(i:Int)<ls.length:=by omega
            have LR:Hid (Rw (put6 w2 g (i*6) e) g (cs.set i e)):=HR2.out.put i e;have LB:Hid (Below w0.heap.size w0 (put6 w2 g (i*6) e)):=zr5 HB2.out hg _ _;unfold put6 at LR LB;rw [hx] at LR LB;go_wp2_with fail
            go_roundw
            case rel=>
              refine⟨i+1,j+1,cs.set i e,by omega,hlt,by go_num,by go_num, ?_, ?_, ?_,LR,LB⟩
              . show _=_;rw [aE];exact HCL.out
              . show _=_;rw [HTS.out,zfg,hx,←HCT.out,setTake cs i e hic];simp
              . intro k hk;rw [aK (by omega)];exact HCR.out k (by omega)
            case measure=>simp [intOf];omega
          . go_wp2_with fail
            go_roundw
            case rel=>
              refine⟨i,j+1,cs,by omega,hlt,rfl,by go_num,HCL, ?_,fun k hk=>HCR.out k (by omega),HR2,HB2⟩;show _=_;rw [HTS.out,zfg,hx,←HCT.out];simp
            case measure=>simp [intOf];omega
        . obtain rfl:j=ls.length:=by omega
          have HS:Hid (cs.take i=stands ls):=by show _=_;rw [HCT.out,List.take_length]
          have hil:(stands ls).length=i:=by rw [←HS.out,al,HCL.out];omega
          have hsl:i+(ls.length - i)=cs.length:=by rw [HCL.out];omega
          have hii:(i:Int)<=ls.length:=by omega
          have hic:(i:Int)<=c:=by omega
          have hicn:i<=c:=by omega
          clear HCL HCT HCR;obtain⟨w3,hclr,h3,h4⟩:=zlp wr 0 g i (ls.length - i) (c - i) cs HR.out hsl;have H3:Hid (Rw w3 g (stands ls)):=by rw [HS.out] at h3;exact h3
          have H4:Hid (Below w0.heap.size w0 w3):=HB.out.grown h4 HB.out.size (fun k e=>by cases e;exact hg);clear h3 h4 HS;go_wp2;go_ret;exact⟨⟨i,rfl,hil.symm⟩,H3.out,H4.out⟩
  . obtain rfl:ls= []:=aw (by omega);refine(zet (some ⟨g,0,none⟩) c w).mono ?_;rintro e w1 ⟨rfl,hb1⟩;have HB1:Hid (Below w0.heap.size w0 w1):=HB.out.trans (hb1.mono HB.out.size);have HR1:Hid (Rw w1 g []):=HR.out.kept hb1;clear hb1 HR HB;go_wp2;go_ret;exact⟨⟨0,rfl,rfl⟩,HR1.out,HB1.out⟩
