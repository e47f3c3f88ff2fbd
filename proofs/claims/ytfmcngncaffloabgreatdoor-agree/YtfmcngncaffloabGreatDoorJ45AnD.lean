import Derived.RangeFuncNested
import Derived.RangeFuncBound
import Derived.RangeFuncCalls
import Derived.RangeFuncLeaves
import Derived.Shelf.Abstract
import Derived.Shelf.RegionOpen
import Derived.WalkKit
import Derived.OwnWalkIn
import Derived.TacticsInMore
import Derived.LoopNIn
import Derived.LoopIn
import Derived.Test.YtfmcngncaffloabGreatDoorJ40RkF
set_option maxHeartbeats 2000000
namespace Go.Proofs.YtfmcngncaffloabGreatDoor
open Go.RowKit Go.Shelf Go.Proofs.Tryz Wv
set_option maxRecDepth 100000
attribute [local go_sem] Oper.semAt_some
def zyl:Value->Nat
 | .string b=>b.size
 | _=>0
def AllY(n l:Nat)(J:List UInt8->World->Prop)(Jx:World->Prop):Prop:=∀(r:List UInt8) (x:Bm) (W0 W:World),J r W0->Below W0.heap.size W0 W->dec (fstB r)=some x.b->(∀own:Clr,BatIn W (newTo own W0.heap.size 0) x)->
 YieldAt Fence.wide n prog l #[bV x.b x.ca x.ea x.cc x.ec, .string ⟨(fstB r).toArray⟩] W fun e W'=>(e= .returned (.bool true)∧J (r.drop (fstB r).length) W')∨(e= .returned (.bool false)∧Jx W')
theorem all1_in(n l Bs:Nat)(s:List UInt8)(eb ef:Addr)(hI:zaj)(J:List UInt8->World->Prop)(Jx:World->Prop)
  (hE:∀r W,J r W->Gl W eb ef∧Pw W∧Gd W∧r.length<=100000000)
  (hB:∀r W W',J r W->Below W.heap.size W W'->J r W')
  (hY:AllY n l J Jx)
  (W:World) (hs:W.cell? ⟨Bs,0,none⟩=some (.string ⟨s.toArray⟩)) (h0:J s W):
  CallsIn Fence.wide (n+1) prog 169 #[.func (.yield l) #[] #[], .pointer (some ⟨Bs,0,none⟩)] W fun e W'=>(∃v,e= .returned v)∧((∃r,dec (fstB r)=none∧J r W')∨Jx W'):=by
 refine callsIn_of_wp func169 rfl trivial ?_ rfl;simp only [ntmps169,List.size_toArray,aJ,List.length_nil,Nat.reduceAdd,Nat.reduceSub,Array.replicate_succ,Array.replicate_zero,List.push_toArray,List.append_toArray,List.nil_append,aR];have HE:Hid (∀r W,J r W->Gl W eb ef∧Pw W∧Gd W∧r.length<=100000000):=hE;have HB:Hid (∀r W W',J r W->Below W.heap.size W W'->J r W'):=hB;have HY:Hid (AllY n l J Jx):=hY;have H0:Hid (J s W):=h0;clear hE hB hY h0;gi_wp2
 gi_loopw [3] (fun p wr=>∃r,p= .string ⟨r.toArray⟩∧Hid (J r wr)) (fun p _=>zyl p)
 case atStart=>exact⟨s,rfl,H0⟩
 case round=>
  obtain⟨r,rfl,HJ⟩:=hrel;obtain⟨gl,gp,gd,hl⟩:=HE.out r wr HJ.out;have GL:Hid (Gl wr eb ef):=gl;have GP:Hid (Pw wr):=gp;have GD:Hid (Gd wr):=gd;clear gl gp gd hs H0;have hle:=zji r;gi_wp2
  refine⟨trivial,(callsIn_wide.2 (ztf r _ GD.out (by omega))).mono ?_⟩;rintro e w1 ⟨rfl,hb1⟩;have HJ1:Hid (J r w1):=HB.out r wr w1 HJ.out hb1;have GL1:Hid (Gl w1 eb ef):=GL.out.kept hb1;have GP1:Hid (Pw w1):=GP.out.kept hb1;have GD1:Hid (Gd w1):=GD.out.kept hb1;clear hb1 GL GP GD HJ;cases hd:dec (fstB r) with
  | none=>
   have HD:Hid (dec (fstB r)=none):=hd;clear hd;gi_wp2
   refine⟨trivial,(callsIn_wide.2 (zi4 (fstB r) w1 eb ef hI GL1.out GP1.out GD1.out (by omega) HD.out)).mono ?_⟩;rintro e w2 ⟨⟨n',y,rfl⟩,hb2⟩;have HJ2:Hid (J r w2):=HB.out r w1 w2 HJ1.out hb2;clear hb2;gi_wp2
   refine⟨fun _ h=>(by cases h), ?_⟩;gi_wp2
   refine bodyPost_ret (results_none rfl _ _ _) rfl ?_;exact⟨⟨_,rfl⟩, .inl ⟨r,HD.out,HB.out _ _ _ HJ2.out ((Below.refl _ _).alloc (ac _) _)⟩⟩
  | some b=>
   have HD:Hid (dec (fstB r)=some b):=hd;have h4:4<=(fstB r).length:=zk4 hd;clear hd;gi_wp2
   refine⟨trivial,(callsIn_wide.2 (zii (fstB r) b w1 eb ef hI GL1.out GP1.out GD1.out HD.out)).mono ?_⟩;rintro e w2 ⟨⟨ca,ea,cc,ec,ms,rfl,he,ho⟩,hb2⟩;obtain⟨x,hx⟩:∃x:Bm,x=⟨b,ca,ea,cc,ec,ms⟩:=⟨_,rfl⟩
   obtain⟨w3,hw3⟩:∃w3,w3=w2.alloc (.cells (bmC x) 134):=⟨_,rfl⟩
   have hB3:Below w2.heap.size w2 w3:=by rw [hw3];exact(Below.refl _ _).alloc (ac _) _
   have HX3:Hid (Blk w3 w2.heap.size (bmC x) 134):=by rw [hw3];exact heap_alloc_new w2 _
   have HY3:=HY.out r x w1 w3 HJ1.out (hb2.trans (hB3.mono hb2.size)) (by rw [hx];exact HD.out) (fun own=>by
    have hbat:BatIn w2 (newTo own w1.heap.size 0) x:=by rw [hx];exact zse he ho
    exact hbat.keep (fun b hl _=>hB3.block b hl) (Ext.refl _ _))
   have hca:ca=x.ca:=by rw [hx]
   have hea:ea=x.ea:=by rw [hx]
   have hcb:cc=x.cc:=by rw [hx]
   have hec:ec=x.ec:=by rw [hx]
   have hbb:b=x.b:=by rw [hx]
   clear hx he ho hb2 hB3;subst hca hea hcb hec hbb;have y0:w3.cell? ⟨w2.heap.size,0,none⟩=some (I x.b.o):=HX3.out.cell 0;have y1:w3.cell? ⟨w2.heap.size,1,none⟩=some (I x.b.s):=HX3.out.cell 1;have y2:w3.cell? ⟨w2.heap.size,2,none⟩=some (I x.b.t):=HX3.out.cell 2;have y3:w3.cell? ⟨w2.heap.size,3,none⟩=some (.slice x.ca x.b.clock.length x.cc):=HX3.out.cell 3;have y4:w3.cell? ⟨w2.heap.size,4,none⟩=some (.slice x.ea x.b.effs.length x.ec):=HX3.out.cell 4;obtain⟨fn,tmps,assign,body,hy,hR⟩:=HY3;rw [hw3] at hy;simp only [bV,bmC,I] at hy;rw [hw3] at hR;have HR:Hid (RoundIn Fence.wide n prog l fn tmps assign body (w2.alloc (.cells (bmC x) 134)) fun e W'=>(e= .returned (.bool true)∧J (r.drop (fstB r).length) W')∨(e= .returned (.bool false)∧Jx W')):=hR;have hsz:=zaz r;have hsf:=zaz (fstB r);have HS:Hid ((⟨r.toArray⟩:ByteArray).extract (fstB r).length r.length=⟨(r.drop (fstB r).length).toArray⟩):=zyk r _;clear hR hw3 y0 y1 y2 y3 y4 HX3;gi_wp2
   refine HR.out.mono ?_;rintro e W3 (⟨rfl,hJ3⟩ | ⟨rfl,hx3⟩)
   ·have HJ3:Hid (J (r.drop (fstB r).length) W3):=hJ3
    clear hJ3;gi_wp2
    go_roundw
    case rel=>exact⟨r.drop (fstB r).length,by first | rw [HS.out] | (congr 1;exact HS.out),HJ3⟩
    case measure=>simp [zyl,zaz];omega
   ·have HX:Hid (Jx W3):=hx3
    clear hx3;gi_wp2
    refine bodyPost_ret (results_none rfl _ _ _) rfl ?_;exact⟨⟨_,rfl⟩, .inr HX.out⟩
end Go.Proofs.YtfmcngncaffloabGreatDoor
namespace Go.Proofs.YtfmcngncaffloabGreatDoor
open Go.RowKit Go.Shelf Go.Proofs.Tryz Wv
set_option maxRecDepth 100000
def Kp2(L:Nat)(W W':World):Prop:=W'.heap[L]?=W.heap[L]?∧W'.heap[L+1]?=W.heap[L+1]?
theorem Kp2.below{L:Nat}{W W':World}(h:Below W.heap.size W W')(hl:L+1<W.heap.size):Kp2 L W W':=⟨h.block _ (by omega),h.block _ hl⟩
theorem Kp2.trans{L:Nat}{A B C:World}(h:Kp2 L A B)(k:Kp2 L B C):Kp2 L A C:=⟨k.1.trans h.1,k.2.trans h.2⟩
def rPost(L ix:Nat)(J:World->Prop)(Jx:World->Prop)(W:World):Exit->Act->World->Prop
 | .normal,_,W'=>Kp2 L W W'∧J W'
 | .exit id,_,W'=>Kp2 L W W'∧id=ix∧Jx W'
 | _,_,_=>False
theorem zgj{g:Operand}{ps:Array Tmp}{assign body:Code}{Q:Exit->Act->World->Prop}{a:Act}{w:World}(n ix Bs:Nat)(s:List UInt8)(eb ef:Addr)(hI:zaj)
  (hg:a.eval g= .func (.func 169) #[] #[.pointer (some ⟨Bs,0,none⟩)]) (hs:w.cell? ⟨Bs,0,none⟩=some (.string ⟨s.toArray⟩)) (hps:ps.size=2)
  (J:List UInt8->World->Prop) (Jx:World->Prop)
  (hE:∀r W,J r W->Gl W eb ef∧Pw W∧Gd W∧r.length<=100000000)
  (hB:∀r W W',J r W->Below W.heap.size W W'->J r W')
  (hput:∀r W o,J r W->J r (W.putObj (w.heap.size+1) o)) (hputx:∀W o,Jx W->Jx (W.putObj (w.heap.size+1) o))
  (h0:∀o1 o2,J s ((w.alloc o1).alloc o2))
  (hround:∀(r:List UInt8) (x:Bm) (W0 W:World),w.heap.size+1<W.heap.size->J r W0->Below W0.heap.size W0 W->dec (fstB r)=some x.b->(∀own:Clr,BatIn W (newTo own W0.heap.size 0) x)->
   assign.wpIn (Fence.wide.inRound (w.heap.size+1)) n prog (Exit.then (fun a1 W1=>Kp2 w.heap.size W W1∧∀o,body.wpIn (Fence.wide.inRound (w.heap.size+1)) n prog (rPost w.heap.size ix (J (r.drop (fstB r).length)) Jx (W1.putObj (w.heap.size+1) o)) a1 (W1.putObj (w.heap.size+1) o)) (fun _ _ _=>False))
    {tmps:=(ps.zip #[bV x.b x.ca x.ea x.cc x.ec, .string ⟨(fstB r).toArray⟩]).foldl (fun t (p,v)=>t.setIfInBounds p v) a.tmps,defers:= []} W)
  (hdone:∀r W,dec (fstB r)=none->J r W->W.heap[w.heap.size]?=some (.deferred (some []))->Q .normal {a with defers:={target:= .collected w.heap.size,args:= #[]}::a.defers} W)
  (hstop:∀W,Jx W->W.heap[w.heap.size]?=some (.deferred (some []))->(Code.exit ix).wpIn Fence.wide (n+2) prog Q {a with defers:={target:= .collected w.heap.size,args:= #[]}::a.defers} W):
  (Code.rangeFunc g ps assign body).wpIn Fence.wide (n+2) prog Q a w:=by
 refine wpIn_rangeFunc ?_;intro fn hfn;obtain⟨rec,hrec⟩:∃rec:LoopState->Option Code->Loop,rec=fun st pe=>{state:=st,pending:=pe,fn,tmps:=a.tmps,params:=ps,assign,body,defers:=w.heap.size}:=⟨_,rfl⟩
 obtain⟨W1,hW1⟩:∃W1,(w.alloc (.deferred (some []))).alloc (.loop (rec .ready none))=W1:=⟨_,rfl⟩
 have hL1:W1.heap[w.heap.size+1]?=some (.loop (rec .ready none)):=by
  rw [←hW1];have:=World.alloc_heap_new (w.alloc (.deferred (some []))) (.loop (rec .ready none));rwa [World.size_alloc] at this
 have hK1:W1.heap[w.heap.size]?=some (.deferred (some [])):=by
  rw [←hW1];exact(Below.heap_alloc _ _ _ (by simp)).trans (World.alloc_heap_new w _)
 have hJ1:J s W1:=by rw [←hW1];exact h0 _ _
 have hb1:Below w.heap.size w W1:=by rw [←hW1];exact((Below.refl _ w).alloc (ac _) _).alloc (by simp) _
 refine⟨w.heap.size+1, [{target:= .collected w.heap.size,args:= #[]}],W1,{target:= .fn (.func 169) #[.pointer (some ⟨Bs,0,none⟩)],args:= #[.func (.yield (w.heap.size+1)) #[] #[]]},W1,169,
  #[.func (.yield (w.heap.size+1)) #[] #[]]++ #[.pointer (some ⟨Bs,0,none⟩)],W1, ?_, ?_, ?_, ?_,fun _=>by omega, ?_⟩
 ·rw [←hW1,hrec];exact run_enterLoop_outer _ _ _ _ _
 ·simp only [resolve,hg]
  simp [go_sem]
 ·intro f' _;exact trivial
 ·simp [invoke,go_sem]
 ·refine(all1_in n (w.heap.size+1) Bs s eb ef hI
   (fun r W=>J r W∧W.heap[w.heap.size+1]?=some (.loop (rec .ready none))∧W.heap[w.heap.size]?=some (.deferred (some [])))
   (fun W=>Jx W∧W.heap[w.heap.size+1]?=some (.loop (rec .done (some (.exit ix))))∧W.heap[w.heap.size]?=some (.deferred (some [])))
   (fun r W h=>hE r W h.1)
   (fun r W W' h hb=>⟨hB r W W' h.1 hb,(hb.block _ (am.1 h.2.1).1).trans h.2.1,(hb.block _ (am.1 h.2.2).1).trans h.2.2⟩)
   ?_ W1 (zaa hb1 hs) ⟨hJ1,hL1,hK1⟩).mono ?_
  ·rintro r x W0 W ⟨hj,hl,hk⟩ hb hd hbat
   have hl':=(hb.block _ (am.1 hl).1).trans hl;have hk':=(hb.block _ (am.1 hk).1).trans hk;have hlt:w.heap.size+1<W.heap.size:=(am.1 hl').1;have hy:=run_yield (P:=prog) (args:= #[bV x.b x.ca x.ea x.cc x.ec, .string ⟨(fstB r).toArray⟩]) hl' (by rw [hrec];exact hps.symm);rw [hrec] at hy;refine⟨fn,_,assign,body,hy,roundIn_of_wpIn hfn (wpIn_mono (hround r x W0 W hlt hj hb hd hbat) ?_)⟩;clear hy;intro e a1 Wa hp;cases e with
   | normal=>
    obtain⟨hkp,hbody⟩:=hp;have hl2:=hkp.2.trans hl';have hk2:=hkp.1.trans hk';have hlt2:w.heap.size+1<Wa.heap.size:=(am.1 hl2).1;refine⟨_,run_beginRound hl2 (by rw [hrec]), ?_⟩;have hl3:(Wa.putObj (w.heap.size+1) (.loop {rec .ready none with state:= .busy})).heap[w.heap.size+1]?=some (.loop {rec .ready none with state:= .busy}):=World.putObj_heap_same hlt2;have hk3:(Wa.putObj (w.heap.size+1) (.loop {rec .ready none with state:= .busy})).heap[w.heap.size]?=some (.deferred (some [])):=(World.putObj_heap_other (by omega)).trans hk2;refine wpIn_mono (hbody _) ?_;rintro e a3 W3 hp3;cases e with
    | normal=>
     obtain⟨hkp3,hj3⟩:=hp3;have hl4:=hkp3.2.trans hl3;have hk4:=hkp3.1.trans hk3;have hend:=run_endRound (P:=prog) none hl4;refine⟨_,_,hend, .inl ⟨rfl,hput _ _ _ hj3, ?_,(World.putObj_heap_other (by omega)).trans hk4⟩⟩;rw [World.putObj_heap_same (am.1 hl4).1,hrec];rfl
    | exit id=>
     obtain⟨hkp3,rfl,hj3⟩:=hp3;have hl4:=hkp3.2.trans hl3;have hk4:=hkp3.1.trans hk3;have hend:=run_endRound (P:=prog) (some (.exit id)) hl4;refine⟨_,_,hend, .inr ⟨rfl,hputx _ _ hj3, ?_,(World.putObj_heap_other (by omega)).trans hk4⟩⟩;rw [World.putObj_heap_same (am.1 hl4).1,hrec];rfl
    | ret=>exact hp3.elim
    | goto t=>exact hp3.elim
    | panic ch=>exact hp3.elim
    | outgrown=>exact hp3.elim
   | exit id=>exact hp.elim
   | ret=>exact hp.elim
   | goto t=>exact hp.elim
   | panic ch=>exact hp.elim
   | outgrown=>exact hp.elim
  ·rintro e W2 ⟨⟨v,rfl⟩,(⟨r,hd,hj,hl,hk⟩ | ⟨hj,hl,hk⟩)⟩
   ·exact⟨none,_,by have:=run_endLoop (P:=prog) hl (by rw [hrec];simp);rw [hrec] at this;exact this,hdone r _ hd (hput _ _ _ hj) ((World.putObj_heap_other (by omega)).trans hk)⟩
   ·exact⟨some (.exit ix),_,by have:=run_endLoop (P:=prog) hl (by rw [hrec];simp);rw [hrec] at this;exact this,hstop _ (hputx _ _ hj) ((World.putObj_heap_other (by omega)).trans hk)⟩
end Go.Proofs.YtfmcngncaffloabGreatDoor
namespace Go.Proofs.YtfmcngncaffloabGreatDoor
open Go.RowKit Go.Proofs.Tryz Wv
set_option maxRecDepth 100000
def AllV(b:Nat):Value:= .func (.func 169) #[] #[.pointer (some ⟨b,0,none⟩)]
def AllOk(w:World)(l:List UInt8)(e:Ending)(w':World):Prop:=e= .returned (AllV w.heap.size)∧w'.cell? ⟨w.heap.size,0,none⟩=some (.string ⟨l.toArray⟩)∧Below w.heap.size w w'
theorem fall_any(l:List UInt8)(w:World):Calls prog 132 #[.string ⟨l.toArray⟩] w fun e w'=>AllOk w l e w':=by
 have HX:Hid (Blk (w.alloc (.cells #[.string ⟨l.toArray⟩] 9)) w.heap.size #[.string ⟨l.toArray⟩] 9):=heap_alloc_new w _;go_enter func132,ntmps132;go_wp2;go_ret;exact⟨rfl,HX.out.cell 0,(Below.refl _ _).alloc (ac _) _⟩
theorem zi9(b o:Nat)(l:List UInt8)(w:World)(h:w.cell? ⟨b,o,none⟩=some (.string ⟨l.toArray⟩)):Calls prog 94 #[.pointer (some ⟨b,o,none⟩)] w fun e w'=>AllOk w l e w':=by
 go_enter func94,ntmps94;go_wp2_with fail
 refine(fall_any l w).mono ?_;rintro e w1 ⟨rfl,h1,h2⟩;have H1:Hid (w1.cell? ⟨w.heap.size,0,none⟩=some (.string ⟨l.toArray⟩)):=h1;have H2:Hid (Below w.heap.size w w1):=h2;clear h1 h2;go_wp2;go_ret;exact⟨rfl,H1.out,H2.out⟩
def zau:Nat->Rp->List UInt8->Rp
 | 0,R,_=>R
 | n+1,R,l=>match dec (fstB l) with
  | none=>R
  | some b=>if dueB R.clock b=true then zau n (zam R b (fstB l) []) (l.drop (fstB l).length) else R
theorem zd9{n:Nat}{R:Rp}{l:List UInt8}(h:dec (fstB l)=none):zau n R l=R:=by
 cases n with
 | zero=>rfl
 | succ n=>rw [zau,h]
theorem zrx{n:Nat}{R:Rp}{l:List UInt8}{b:Bt}(h:dec (fstB l)=some b)(hd:dueB R.clock b=false):zau n R l=R:=by
 cases n with
 | zero=>rfl
 | succ n=>rw [zau,h];simp [hd]
theorem ze0{n:Nat}{R:Rp}{l:List UInt8}{b:Bt}(h:dec (fstB l)=some b)(hd:dueB R.clock b=true)(hn:l.length<=n):∃m,(l.drop (fstB l).length).length<=m∧zau m (zam R b (fstB l) []) (l.drop (fstB l).length)=zau n R l:=by
 have h4:=zk4 h;have hl:=zji l;cases n with
 | zero=>omega
 | succ n=>exact⟨n,by rw [aP];omega,by rw [zau,h];simp [hd]⟩
def zb6(R:Rp):Rp:=syncR (zau R.log.length (newR R.n.toNat R.clock.length) R.log)
theorem zt7(w:World)(L:Nat)(o:Obj):Tch (fun k=>k=L) w (w.putObj L o):=⟨rfl,rfl,rfl,by simp,fun _ _ hn=>World.putObj_heap_other hn⟩
theorem zj0{w:World}{own:Clr}{L:Nat}(o:Obj){d:Nat}(h:own L ≠ d):Same own d w (w.putObj L o):=fun b _ hb=>World.putObj_heap_other (fun e=>h (by rw [←e];exact hb))
theorem RpAt.put{w:World}{own:Clr}{c p L:Nat}{R:Rp}(o:Obj)(h:RpAt w own c p R)(hL:own L=999)(hc:c+10<999):RpAt (w.putObj L o) own c p R:=by
 obtain⟨cg,cc,hp,mv,hv,ev,hs,es,h⟩:=h;exact⟨_,_,_,_,_,_,_,_,h.keep (zj0 o (by omega)) (fun d _ _=>zj0 o (by omega)) (Ext.refl _ _)⟩
theorem Env.put{w0 w:World}{own:Clr}{eb ef:Addr}{L:Nat}(o:Obj)(h:Env w0 w own eb ef)(hL:own L=999):Env w0 (w.putObj L o) own eb ef:=
 h.tch (zt7 w L o) (fun k e e2=>by rw [e2,hL] at e;cases e) (Ext.refl _ _)
theorem rs_copy{w w':World}{own:Clr}{c p q:Nat}{R:Rp}{cg cc hp:Nat}{mv hv ev:Value}{hs:List Bm}{es:List Em}(h:RpIn w own c q R cg cc hp mv hv ev hs es)(hc0:0<c)(ho:own p=c)(hT:Tch (fun k=>k=p) w w')
  (hb:Blk w' p #[I R.n,I R.st, .slice (some ⟨cg,0,none⟩) R.clock.length cc,I R.time,mv, .string ⟨R.log.toArray⟩,I R.synced, .pointer (some ⟨hp,0,none⟩),ev] 110) (hcg:cg ≠ p) (hmv:mv ≠ .map (some p)):RpIn w' own c p R cg cc hp mv hv ev hs es:=by
 have hS:∀d,d ≠ c->Same own d w w':=fun d hd b hb ho'=>hT.block b hb (fun e=>hd (by rw [←ho',e,ho]))
 refine⟨hb,hT.blk h.clk hcg,ho,h.own2, ?_,h.held.keep (hS 0 (by omega)) (hS _ (by omega)) (Ext.refl _ _),h.heldB,h.effs.keep (hS 0 (by omega)) (hS _ (by omega)) (Ext.refl _ _),h.effsE⟩;rcases h.obs with h1 | ⟨mb,vs,e,ho',hm,l1,l2,hk⟩
 ·exact Or.inl h1
 ·exact Or.inr ⟨mb,vs,e,ho',hm.same (hT.block mb hm.lt (fun e2=>hmv (by rw [e,e2]))),l1,l2,fun k a b=>(hk k a b).keep (hS _ (by omega)) (Ext.refl _ _)⟩
end Go.Proofs.YtfmcngncaffloabGreatDoor
namespace Go.Proofs.YtfmcngncaffloabGreatDoor
open Go.RowKit Go.Proofs.Tryz Wv
set_option maxRecDepth 100000
structure RsI(w w0:World)(own own':Clr)(c p n D:Nat)(eb ef:Addr)(W:World):Prop where
 env:Env w0 W own' eb ef
 ext:Ext own own' w.heap.size
 tch:Tch (fun k=>c<=own k∧own k<=c+10) w W
 box:W.cell? ⟨w.heap.size,0,none⟩=some (.pointer (some ⟨p,0,none⟩))
 bx:own' w.heap.size=999
 d1:own' D=999
 d2:own' (D+1)=999
 dlt:D+1<W.heap.size
def RsJ(w w0:World)(own:Clr)(c p n D:Nat)(eb ef:Addr)(RF:Rp)(r:List UInt8)(W:World):Prop:=∃own' R',RsI w w0 own own' c p n D eb ef W∧RpAt W own' c p R'∧Rok R'∧R'.held= []∧R'.clock.length=n∧(∃m,r.length<=m∧zau m R' r=RF)∧r.length<=10000000
def RsX(w w0:World)(own:Clr)(c p n D:Nat)(eb ef:Addr)(RF:Rp)(W:World):Prop:=∃own',RsI w w0 own own' c p n D eb ef W∧RpAt W own' c p RF
section
variable {w w0 W W' : World} {own own' : Clr} {c p n D : Nat} {eb ef : Addr} {RF : Rp} {r : List UInt8}
theorem RsI.below(h:RsI w w0 own own' c p n D eb ef W)(hb:Below W.heap.size W W'):RsI w w0 own (newTo own' W.heap.size 0) c p n D eb ef W':=
 ⟨h.env.tch (F:=fun _=>False) (Tch.below hb) (fun _ _ h=>h) (zab _ _ _),h.ext.trans (zab _ _ _) h.tch.size,h.tch.trans (Tch.below (F:=fun _=>False) hb) (fun _ _ h=>h) (fun _ _ h=>h.elim),zaa hb h.box,(zae _ _ _ _ (zad h.box)).trans h.bx,(zae _ _ _ _ (by have:=h.dlt;omega)).trans h.d1,(zae _ _ _ _ h.dlt).trans h.d2,Nat.lt_of_lt_of_le h.dlt hb.size⟩
theorem RsI.put(h:RsI w w0 own own' c p n D eb ef W)(hD:w.heap.size<D)(o:Obj)(k:Nat)(hk:k=D∨k=D+1):RsI w w0 own own' c p n D eb ef (W.putObj k o):=by
 have hk9:own' k=999:=by rcases hk with rfl | rfl;exact h.d1;exact h.d2
 refine⟨h.env.put o hk9,h.ext,h.tch.trans (zt7 W k o) (fun _ _ h=>h) (fun j hj e=> ?_), ?_,h.bx,h.d1,h.d2,by simpa using h.dlt⟩
 ·subst e;rcases hk with rfl | rfl<;>omega
 ·exact zbb h.box (World.putObj_heap_other (by show w.heap.size ≠ k;rcases hk with rfl | rfl<;>omega))
theorem RsJ.below(h:RsJ w w0 own c p n D eb ef RF r W)(hb:Below W.heap.size W W'):RsJ w w0 own c p n D eb ef RF r W':=by
 obtain⟨own',R',h1,h2,h3⟩:=h;exact⟨_,R',h1.below hb,h2.keep (fun b hl _=>hb.block b hl) (fun _ _ _ b hl _=>hb.block b hl) (zab _ _ _),h3⟩
theorem RsJ.put(h:RsJ w w0 own c p n D eb ef RF r W)(hD:w.heap.size<D)(hc:c+10<999)(o:Obj):RsJ w w0 own c p n D eb ef RF r (W.putObj (D+1) o):=by
 obtain⟨own',R',h1,h2,h3⟩:=h;exact⟨_,R',h1.put hD o _ (Or.inr rfl),h2.put o h1.d2 hc,h3⟩
theorem RsX.put(h:RsX w w0 own c p n D eb ef RF W)(hD:w.heap.size<D)(hc:c+10<999)(o:Obj)(k:Nat)(hk:k=D∨k=D+1):RsX w w0 own c p n D eb ef RF (W.putObj k o):=by
 obtain⟨own',h1,h2⟩:=h;have hk9:own' k=999:=by rcases hk with rfl | rfl;exact h1.d1;exact h1.d2
 exact⟨_,h1.put hD o _ hk,h2.put o hk9 hc⟩
theorem RsX.rok(h:RsX w w0 own c p n D eb ef RF W):ROk w own c p RF W:=by
 obtain⟨own',h1,h2⟩:=h;exact⟨own',h1.ext,h2,h1.tch⟩
structure RsR(w w0:World)(own own':Clr)(c p n D:Nat)(eb ef:Addr)(R':Rp)(x:Bm)(bb:Nat)(W:World):Prop where
 i:RsI w w0 own own' c p n D eb ef W
 rp:RpAt W own' c p R'
 bat:BatIn W own' x
 blk:Blk W bb (bmC x) 134
theorem rsr_of{W0 W:World}{x:Bm}(h:RsJ w w0 own c p n D eb ef RF r W0)(hb:Below W0.heap.size W0 W)(hx:∀own:Clr,BatIn W (newTo own W0.heap.size 0) x)(hD:w.heap.size<D)(hc:c+10<999)(o:Obj):∃own' R',Hid (RsR w w0 own own' c p n D eb ef R' x W.heap.size ((W.alloc (.cells (bmC x) 134)).putObj (D+1) o))∧Hid (Rok R')∧R'.held= []∧R'.clock.length=n∧Hid (∃m,r.length<=m∧zau m R' r=RF)∧r.length<=10000000:=by
 obtain⟨own',R',h1,h2,h3,h4,h5,h6,h7⟩:=h;have hB:Below W.heap.size W (W.alloc (.cells (bmC x) 134)):=(Below.refl _ _).alloc (ac _) _;have hb2:=hb.trans (hB.mono hb.size);have h8:=h1.below hb2;have hbb:W.heap.size ≠ D+1:=by have:=h1.dlt;have:=hb.size;omega
 refine⟨newTo own' W0.heap.size 0,R',⟨h8.put hD o _ (Or.inr rfl), ?_, ?_, ?_⟩,h3,h4,h5,h6,h7⟩
 ·exact(h2.keep (fun b hl _=>hb2.block b hl) (fun _ _ _ b hl _=>hb2.block b hl) (zab _ _ _)).put o h8.d2 hc
 ·exact((hx own').keep (fun b hl _=>hB.block b hl) (Ext.refl _ _)).keep (zj0 o (by rw [h8.d2];omega)) (Ext.refl _ _)
 ·exact(World.putObj_heap_other hbb).trans (heap_alloc_new W _)
theorem RsR.below{R':Rp}{x:Bm}{bb:Nat}(h:RsR w w0 own own' c p n D eb ef R' x bb W)(hb:Below W.heap.size W W'):RsR w w0 own (newTo own' W.heap.size 0) c p n D eb ef R' x bb W':=
 ⟨h.i.below hb,h.rp.keep (fun b hl _=>hb.block b hl) (fun _ _ _ b hl _=>hb.block b hl) (zab _ _ _),h.bat.keep (fun b hl _=>hb.block b hl) (zab _ _ _),h.blk.kept hb h.blk.lt⟩
theorem RsI.del{own5:Clr}(h:RsI w w0 own own' c p n D eb ef W)(hc0:0<c)(hc:c+10<999)(hE:Ext own' own5 W.heap.size)(hT:Tch (fun k=>c<=own' k∧own' k<=c+9) W W'):RsI w w0 own own5 c p n D eb ef W':=by
 have hD:D<W.heap.size:=by have:=h.dlt;omega
 refine⟨h.env.tch hT (fun k e h=>by rw [e] at h;omega) hE,h.ext.trans hE h.tch.size,h.tch.trans hT (fun _ _ h=>h) (fun k hk e=>by rw [h.ext k hk] at e;exact⟨e.1,by omega⟩),zbb h.box (hT.block _ (zad h.box) (fun e=>by have h9:=h.bx;have e1:c<=own' w.heap.size∧own' w.heap.size<=c+9:=e;omega)),(hE _ (zad h.box)).trans h.bx,(hE _ hD).trans h.d1,(hE _ h.dlt).trans h.d2,Nat.lt_of_lt_of_le h.dlt hT.size⟩
end
theorem RsJ.env{w w0 W:World}{own:Clr}{c p n D:Nat}{eb ef:Addr}{RF:Rp}{r:List UInt8}(hg:Gd w0)(h:RsJ w w0 own c p n D eb ef RF r W):Gl W eb ef∧Pw W∧Gd W∧r.length<=100000000:=by
 obtain⟨own',R',h1,h2,h3,h4,h5,h6,h7⟩:=h;exact⟨h1.env.gl.kept h1.env.bel,h1.env.pw.kept h1.env.bel,hg.kept h1.env.bel,by omega⟩
theorem RsJ.done{w w0 W:World}{own:Clr}{c p n D:Nat}{eb ef:Addr}{RF:Rp}{r:List UInt8}(h:RsJ w w0 own c p n D eb ef RF r W)(hd:dec (fstB r)=none):RsX w w0 own c p n D eb ef RF W:=by
 obtain⟨own',R',h1,h2,h3,h4,h5,⟨m,_,h6⟩,h7⟩:=h;rw [zd9 hd] at h6;subst h6;exact⟨own',h1,h2⟩
theorem zul{own:Clr}{c D:Nat}{W W':World}(hT:Tch (fun k=>c<=own k∧own k<=c+9) W W')(hc:c+10<999)(h1:own D=999)(h2:own (D+1)=999)(hl:D+1<W.heap.size):Kp2 D W W':=
 ⟨hT.block _ (by omega) (fun e=>by have e1:c<=own D∧own D<=c+9:=e;omega),hT.block _ hl (fun e=>by have e1:c<=own (D+1)∧own (D+1)<=c+9:=e;omega)⟩
theorem rs_next{w w0 W3 W4:World}{own own5:Clr}{c p n D:Nat}{eb ef:Addr}{RF R':Rp}{r:List UInt8}{x:Bm}{bb:Nat}{cg cc hp:Nat}{mv hv ev:Value}{hs:List Bm}{es:List Em}(h:RsR w w0 own own5 c p n D eb ef R' x bb W3)(hok:Rok R')(hhe:R'.held= [])(hcl:R'.clock.length=n)(hrun:∃m,r.length<=m∧zau m R' r=RF)(hrl:r.length<=10000000)(hd:dec (fstB r)=some x.b)(hdu:dueB R'.clock x.b=true)(hc0:0<c)(hc9:c+10<999)(hib:Wv.isB x.b=true)(hfl:(fstB r).length<=65535)
  (hR3:RpIn W3 own5 c p R' cg cc hp mv hv ev hs es) (hD:DelOk W3 own5 c p (zam R' x.b (fstB r) ((takeP lessM (fun m=>likeB x.b m.b) hs).2.map (·.b))) cg cc hp mv ev (takeP lessM (fun m=>likeB x.b m.b) hs).2 es W4):Kp2 D W3 W4∧RsJ w w0 own c p n D eb ef RF (r.drop (fstB r).length) W4:=by
 have e1:hs= []:=by
  have h1:=hR3.heldB;rw [hhe] at h1;cases hs with
  | nil=>rfl
  | cons=>cases h1
 subst e1;rw [zvk] at hD;obtain⟨own6,hv6,hE6,hR6,hT6⟩:=hD;obtain⟨m,hm,hr⟩:=hrun;obtain⟨m2,hm2,hr2⟩:=ze0 (n:=m) hd hdu hm;refine⟨zul hT6 hc9 h.i.d1 h.i.d2 h.i.dlt,own6,_,h.i.del hc0 hc9 hE6 hT6,⟨_,_,_,_,_,_,_,_,hR6⟩, ?_,rfl, ?_,⟨m2,hm2,hr2.trans hr⟩, ?_⟩
 ·exact hok.deliver hib (by omega) hdu (fun y hy=>(by cases hy)) (by simp)
 ·show(R'.clock.set _ _).length=n
  rw [aE,hcl]
 ·rw [aP];omega
theorem rs_stop{w w0 W3:World}{own own5:Clr}{c p n D:Nat}{eb ef:Addr}{RF R':Rp}{r:List UInt8}{x:Bm}{bb:Nat}(h:RsR w w0 own own5 c p n D eb ef R' x bb W3)(hrun:∃m,r.length<=m∧zau m R' r=RF)(hd:dec (fstB r)=some x.b)(hdu:dueB R'.clock x.b=false):RsX w w0 own c p n D eb ef RF W3:=by
 obtain⟨m,_,hr⟩:=hrun;rw [zrx hd hdu] at hr;subst hr;exact⟨own5,h.i,h.rp⟩
theorem zy0{w w0 W W5:World}{own own9:Clr}{c p n D:Nat}{eb ef:Addr}{RF R2:Rp}{cg cc hp:Nat}{mv hv ev:Value}{hs:List Bm}{es:List Em}(h:RsI w w0 own own9 c p n D eb ef W)(hp9:own9 p=c)(hD:w.heap.size<D)(hc0:0<c)(hc9:c+10<999)(hS:zb2 W own9 c p (syncR RF) cg cc hp mv hv ev hs es W5)(he:syncR RF=R2)(hK:W.heap[D]?=some (.deferred (some []))):W5.heap[D]?=some (.deferred (some []))∧∀o,ROk w own c p R2 (W5.putObj D o):=by
 have hT:Tch (fun k=>c<=own9 k∧own9 k<=c+9) W W5:=hS.2.trans (Tch.refl (fun k=>k=p) W5) (fun k _ e=>by rw [e,hp9];exact⟨ac _,by omega⟩) (fun k _ e=>by rw [e,hp9];exact⟨ac _,by omega⟩);subst he;exact⟨(zul hT hc9 h.d1 h.d2 h.dlt).1.trans hK,fun o=>(RsX.put ⟨own9,h.del hc0 hc9 (Ext.refl _ _) hT,⟨_,_,_,_,_,_,_,_,hS.1⟩⟩ hD hc9 o D (Or.inl rfl)).rok⟩
end Go.Proofs.YtfmcngncaffloabGreatDoor
namespace Go.Proofs.YtfmcngncaffloabGreatDoor
open Go.RowKit Go.Shelf Go.Proofs.Tryz Wv
set_option maxRecDepth 100000
def ansL(kn:List Int):Nat->List UInt8->List (List UInt8)->List (List UInt8)
 | 0,_,acc=>acc
 | m+1,l,acc=>match dec (fstB l) with
  | none=>acc
  | some b=>
   if (if b.s>kn.getD b.o.toNat 0 then acc++ [fstB l] else acc).length=3 then(if b.s>kn.getD b.o.toNat 0 then acc++ [fstB l] else acc)
   else ansL kn m (l.drop (fstB l).length) (if b.s>kn.getD b.o.toNat 0 then acc++ [fstB l] else acc)
theorem zis{kn:List Int}{m:Nat}{l:List UInt8}{acc:List (List UInt8)}(h:dec (fstB l)=none):ansL kn m l acc=acc:=by
 cases m with
 | zero=>rfl
 | succ m=>rw [ansL,h]
theorem zm5{kn:List Int}{m:Nat}{l:List UInt8}{acc acc':List (List UInt8)}{b:Bt}(h:dec (fstB l)=some b)(ha:(if b.s>kn.getD b.o.toNat 0 then acc++ [fstB l] else acc)=acc')(hm:l.length<=m):
  (acc'.length=3->ansL kn m l acc=acc')∧(acc'.length ≠ 3->∃k,(l.drop (fstB l).length).length<=k∧ansL kn k (l.drop (fstB l).length) acc'=ansL kn m l acc):=by
 have h4:=zk4 h;have hl:=zji l;cases m with
 | zero=>omega
 | succ m=>
  refine⟨fun h3=> ?_,fun h3=>⟨m,by rw [aP];omega, ?_⟩⟩
  ·rw [ansL,h];simp only [ha,h3,if_true]
  ·rw [ansL,h];simp only [ha,h3,if_false]
def LogN(n:Nat)(r:List UInt8):Prop:=∀m p,p∈allN m r->p.1.clock.length=n
theorem LogN.head{n:Nat}{r:List UInt8}{b:Bt}(h:LogN n r)(hd:dec (fstB r)=some b):b.clock.length=n:=h 1 (b,fstB r) (by rw [allN,hd];simp)
theorem LogN.tail{n:Nat}{r:List UInt8}{b:Bt}(h:LogN n r)(hd:dec (fstB r)=some b):LogN n (r.drop (fstB r).length):=fun m p hp=>h (m+1) p (by rw [allN,hd];exact List.mem_cons_of_mem _ hp)
def answR(R:Rp)(l:List UInt8):List (List UInt8):=if digOk l R.clock.length=true then ansL (digI l) R.log.length R.log [] else []
def strV(l:List UInt8):Value:= .string ⟨l.toArray⟩
structure AnI(w:World)(gk ck bk ba D:Nat)(kn:List Int)(v:Value)(acc:List (List UInt8))(W:World):Prop where
 bel:Below w.heap.size w W
 kb:Blk W bk #[.slice (some ⟨gk,0,none⟩) kn.length ck] 32
 kc:∀j (h:j<kn.length),W.cell? ⟨gk,j,none⟩=some (I kn[j])
 ab:Blk W ba #[v] 163
 row:W.ownsRow w.heap.size 9 1 v acc.length (acc.map strV)
 ne:∀g,v.ownBlock=some g->g ≠ D∧g ≠ D+1∧g ≠ gk
 bkD:bk<D
 baD:ba<D
 gkD:gk<D
 dw:w.heap.size<=ba
 dlt:D+1<W.heap.size
 bne:bk ≠ ba
 gne:gk ≠ ba
section
variable {w W W' : World} {gk ck bk ba D : Nat} {kn : List Int} {v : Value} {acc : List (List UInt8)}
theorem AnI.rne(h:AnI w gk ck bk ba D kn v acc W):∀g,v.ownBlock=some g->g ≠ bk∧g ≠ ba:=fun g e=>by
 rcases h.row.2 with⟨e1,_⟩ | ⟨g',cap,cur,e1,_,h4,_⟩
 ·rw [e1] at e;cases e
 ·rw [e1] at e
  cases e
  exact⟨fun e2=>(by subst e2;cases h4.symm.trans h.kb),fun e2=>(by subst e2;cases h4.symm.trans h.ab)⟩
theorem AnI.below(h:AnI w gk ck bk ba D kn v acc W)(hb:Below W.heap.size W W'):AnI w gk ck bk ba D kn v acc W':=
 ⟨h.bel.trans (hb.mono h.bel.size),h.kb.kept hb h.kb.lt,fun j hj=>zaa hb (h.kc j hj),h.ab.kept hb h.ab.lt,zag h.row (fun g e=>hb.block g (h.row.lt g e).2),h.ne,h.bkD,h.baD,h.gkD,h.dw,Nat.lt_of_lt_of_le h.dlt hb.size,h.bne,h.gne⟩
theorem zx2{B:Nat}(h:Below B w W)(L:Nat)(hL:B<=L)(o:Obj):Below B w (W.putObj L o):=⟨h.os,h.tape,h.output,by simpa using h.size,fun k hk=>(World.putObj_heap_other (by omega)).trans (h.block k hk)⟩
theorem AnI.put(h:AnI w gk ck bk ba D kn v acc W)(L:Nat)(hL:L=D∨L=D+1)(o:Obj):AnI w gk ck bk ba D kn v acc (W.putObj L o):=by
 have h1:=h.bkD;have h2:=h.baD;have h3:=h.gkD;have h4:=h.dw
 have e:∀b,b ≠ L->(W.putObj L o).heap[b]?=W.heap[b]?:=fun b hb=>World.putObj_heap_other hb
 refine⟨zx2 h.bel L (by omega) o,(e bk (by omega)).trans h.kb,fun j hj=>zbb (h.kc j hj) (e gk (by omega)),(e ba (by omega)).trans h.ab,zag h.row (fun g hg=>e g (by have:=h.ne g hg;omega)),h.ne,h1,h2,h3,h4,by simpa using h.dlt,h.bne,h.gne⟩
theorem AnI.app{w3:World}{v':Value}{f:List UInt8}{o:Obj}(h:AnI w gk ck bk ba D kn v acc W)(hg:(W.alloc o).grownBy w3 v.ownBlock)(hr:w3.ownsRow w.heap.size 9 1 v' (acc.length+1) (acc.map strV++ [strV f]))(hat:v'.ownBlock=v.ownBlock∨v'.ownBlock=some (W.alloc o).heap.size):AnI w gk ck bk ba D kn v' (acc++ [f]) (w3.setCell ⟨ba,0,none⟩ v'):=by
 have hA:=h.below ((Below.refl _ _).alloc (ac _) o);have hne:=hA.rne;have e3:∀b,b<(W.alloc o).heap.size->some b ≠ v.ownBlock->w3.heap[b]?=(W.alloc o).heap[b]?:=fun b hb hn=>hg.block b hb hn
 have kb3:Blk w3 bk #[.slice (some ⟨gk,0,none⟩) kn.length ck] 32:=(e3 bk hA.kb.lt (fun e=>(hne bk e.symm).1 rfl)).trans hA.kb;have ab3:Blk w3 ba #[v] 163:=(e3 ba hA.ab.lt (fun e=>(hne ba e.symm).2 rfl)).trans hA.ab;have b3:Below w.heap.size w w3:=hA.bel.grown hg hA.bel.size (fun j e=>(hA.row.lt j e).1);have es:∀b,b ≠ ba->(w3.setCell ⟨ba,0,none⟩ v').heap[b]?=w3.heap[b]?:=fun b hb=>heap_setCell_other _ _ _ _ hb
 have nn:∀g,v'.ownBlock=some g->g ≠ D∧g ≠ D+1∧g ≠ gk:=fun g e=>by
  rcases hat with e1 | e1
  ·exact h.ne g (e1.symm.trans e)
  ·rw [e1] at e
   cases e
   have:=hA.dlt;have:=hA.gkD
   omega
 have nb:∀g,v'.ownBlock=some g->g ≠ ba:=fun g e=>by
  rcases hat with e1 | e1
  ·exact(hne g (e1.symm.trans e)).2
  ·rw [e1] at e
   cases e
   have:=hA.ab.lt;omega
 refine⟨b3.setCell h.dw _,(es bk h.bne).trans kb3,fun j hj=>zbb (zbb (hA.kc j hj) (e3 gk (zad (hA.kc j hj)) (fun e=>(hA.ne gk e.symm).2.2 rfl))) (es gk h.gne),ab3.set 0 _, ?_,nn,h.bkD,h.baD,h.gkD,h.dw, ?_,h.bne,h.gne⟩
 ·rw [ah,aO]
  exact zag hr (fun g e=>es g (nb g e))
 ·have:=hA.dlt;have:=hg.size;simp at *;omega
theorem AnI.app_ab{w3:World}{o:Obj}(h:AnI w gk ck bk ba D kn v acc W)(hg:(W.alloc o).grownBy w3 v.ownBlock):Blk w3 ba #[v] 163:=by
 have hA:=h.below ((Below.refl _ _).alloc (ac _) o);exact(hg.block ba hA.ab.lt (fun e=>(hA.rne ba e.symm).2 rfl)).trans hA.ab
theorem AnI.app_kp{w3:World}{o:Obj}(h:AnI w gk ck bk ba D kn v acc W)(hg:(W.alloc o).grownBy w3 v.ownBlock)(u:Value):Kp2 D W (w3.setCell ⟨ba,0,none⟩ u):=by
 have h2:=h.baD;have h3:=h.dlt
 have k1:Kp2 D W (W.alloc o):=Kp2.below ((Below.refl _ _).alloc (ac _) o) h3;have k2:Kp2 D (W.alloc o) w3:=⟨hg.block D (by simp;omega) (fun e=>(h.ne D e.symm).1 rfl),hg.block (D+1) (by simp;omega) (fun e=>(h.ne (D+1) e.symm).2.1 rfl)⟩
 have k3:Kp2 D w3 (w3.setCell ⟨ba,0,none⟩ u):=⟨heap_setCell_other _ _ _ _ (by show D ≠ ba;omega),heap_setCell_other _ _ _ _ (by show D+1 ≠ ba;omega)⟩
 exact(k1.trans k2).trans k3
end
