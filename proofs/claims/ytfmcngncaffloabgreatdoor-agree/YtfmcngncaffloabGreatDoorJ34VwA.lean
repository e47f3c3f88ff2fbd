import Derived.Test.YtfmcngncaffloabGreatDoorJ33CsB
import Derived.Test.YtfmcngncaffloabGreatDoorJ06CovA
import Derived.Laws.Rows
namespace Go.Proofs.YtfmcngncaffloabGreatDoor
open Go.RowKit Wv
set_option maxRecDepth 100000
structure Mk where
 m:Em
 d:Dt
 t:Int
def Mk.cells(k:Mk):List Value:= [I k.m.e.op,I k.m.e.ob,I k.m.e.va,I k.m.e.ref.o,I k.m.e.ref.s,I k.m.e.ref.i, .slice k.m.da k.m.e.dots.length k.m.dc,I k.d.o,I k.d.s,I k.d.i,I k.t]
structure MksAt(w:World)(a:Option Addr)(ks:List Mk):Prop where
 row:At w a (flat Mk.cells ks)
 dots:∀k∈ks,At w k.m.da (flat zac k.m.e.dots)
def zar(a b:Mk):Bool:=if a.t=b.t then(if a.d.o=b.d.o then decide (b.d.i<a.d.i) else decide (b.d.o<a.d.o)) else decide (b.t<a.t)
def zn2(op:Int)(d:Dt)(k:Mk):Bool:=decide (k.m.e.op=op) && ((decide (op=6) && eqD k.m.e.ref d) || k.m.e.dots.any (fun x=>eqD x d))
def goneK(ks:List Mk)(op:Int)(d:Dt):Bool:=ks.any (zn2 op d)
def insAt(l:List Mk)(i:Nat)(k:Mk):List Mk:=l.take i++k::l.drop i
def insK(p:Mk->Bool)(l:List Mk)(k:Mk):List Mk:=insAt l (l.takeWhile p).length k
def zf6(ks:List Mk)(mk en:Int)(out:List Mk)(k:Mk):List Mk:=if k.m.e.op=mk∧goneK ks en k.d=false then insK (fun x=>lessD x.d k.d) out k else out
def livK(ks:List Mk)(mk en:Int):List Mk:=ks.foldl (zf6 ks mk en) []
theorem zkm(p:Mk->Bool)(l:List Mk)(k x:Mk):x∈insK p l k↔x=k∨x∈l:=by
 unfold insK insAt;have h:x∈l↔x∈l.take (l.takeWhile p).length∨x∈l.drop (l.takeWhile p).length:=by rw [←ao,aH]
 rw [h];simp only [ao,ar];constructor
 ·rintro(a | a | a)
  ·exact .inr (.inl a)
  ·exact .inl a
  ·exact .inr (.inr a)
 ·rintro(a | a | a)
  ·exact .inr (.inl a)
  ·exact .inl a
  ·exact .inr (.inr a)
def zc1(d:Dt)(out:List Mk)(k:Mk):List Mk:=if k.m.e.op=5∧eqD k.m.e.ref d=true then insK (fun x=>zar x k) out k else out
def chK(ks:List Mk)(d:Dt):List Mk:=ks.foldl (zc1 d) []
def treeK(ks:List Mk):Nat->Dt->List Mk
 | 0,_=> []
 | n+1,d=>(chK ks d).flatMap (fun c=>c::treeK ks n c.d)
def zik(ks:List Mk):List Mk:=(treeK ks (ks.length+1) ⟨0,0,0⟩).filter (fun k=> !goneK ks 6 k.d)
theorem chF_mem(d:Dt)(l:List Mk)(x:Mk):x∈l.foldl (zc1 d) []->x∈l:=by
 suffices h:∀(l:List Mk) (o:List Mk),x∈l.foldl (zc1 d) o->x∈o∨x∈l by
  intro hx;rcases h l [] hx with a | a
  ·cases a
  ·exact a
 intro l;induction l with
 | nil=>intro o h;exact .inl h
 | cons k l ih=>
  intro o h;rw [List.foldl_cons] at h;rcases ih _ h with a | a
  ·unfold zc1 at a
   split at a
   ·rw [zkm] at a
    rcases a with rfl | a
    ·exact .inr (by simp)
    ·exact .inl a
   ·exact .inl a
  ·exact .inr (by simp [a])
theorem zuu{ks:List Mk}{d:Dt}{x:Mk}(h:x∈chK ks d):x∈ks:=chF_mem d ks x h
theorem zcn(a:Mk):zar a a=false:=by unfold zar;simp
theorem zbp{a b c:Mk}(h1:zar a b=true)(h2:zar b c=true):zar a c=true:=by
 unfold zar at *
 split at h1<;>split at h2
 all_goals (try split at h1)
 all_goals (try split at h2)
 all_goals (simp only [aq] at h1 h2)
 all_goals (split;(try split))
 all_goals (simp only [aq];omega)
theorem zfs{a b:Mk}(h1:zar a b=true):zar b a=false:=by
 rw [←Bool.not_eq_true];intro h2;have:=zbp h1 h2;rw [zcn] at this;cases this
structure Fr(ks:List Mk)(x:Mk):Prop where
 d0:x.d ≠⟨0,0,0⟩
 nw:∀k∈ks,k.d ≠ x.d
 dt:∀k∈ks,x.d∉k.m.e.dots∧k.m.e.ref ≠ x.d
 dx:x.d∉x.m.e.dots∧x.m.e.ref ≠ x.d
 par:x.m.e.op=5->x.m.e.ref=⟨0,0,0⟩∨∃p∈ks,p.m.e.op=5∧p.d=x.m.e.ref∧zar x p=true
 tri:∀k∈ks,zar x k=true∨zar k x=true
 e6:x.m.e.op=6->x.m.e.dots= []
 v2:x.m.e.op=2->0<=x.m.e.va∧x.m.e.va<=255
inductive Mks:List Mk->Prop
 | nil:Mks []
 | snoc {ks:List Mk} {x:Mk} (h:Mks ks) (hx:Fr ks x):Mks (ks++ [x])
theorem Mks.uniq{ks:List Mk}(h:Mks ks):∀a∈ks,∀b∈ks,a.d=b.d->a=b:=by
 induction h with
 | nil=>intro a ha;cases ha
 | snoc h hx ih=>
  intro a ha b hb e;rw [ao,aB] at ha hb;rcases ha with ha | rfl<;>rcases hb with hb | rfl
  ·exact ih a ha b hb e
  ·exact absurd e (hx.nw a ha)
  ·exact absurd e.symm (hx.nw b hb)
  ·rfl
theorem Mks.nd{ks:List Mk}(h:Mks ks):(ks.map (·.d)).Nodup:=by
 induction h with
 | nil=>simp
 | snoc h hx ih=>
  rw [aO,List.nodup_append];refine⟨ih,by simp,fun a ha b hb=> ?_⟩;obtain⟨k,hk,rfl⟩:=aG.1 ha;simp only [List.map_cons,List.map_nil,aB] at hb;rw [hb];exact hx.nw k hk
theorem Mks.d0{ks:List Mk}(h:Mks ks):∀k∈ks,k.d ≠⟨0,0,0⟩:=by
 induction h with
 | nil=>intro a ha;cases ha
 | snoc h hx ih=>
  intro a ha;rw [ao,aB] at ha;rcases ha with ha | rfl
  ·exact ih a ha
  ·exact hx.d0
theorem Mks.par{ks:List Mk}(h:Mks ks):∀a∈ks,a.m.e.op=5->a.m.e.ref=⟨0,0,0⟩∨∃p∈ks,p.m.e.op=5∧p.d=a.m.e.ref∧zar a p=true:=by
 induction h with
 | nil=>intro a ha;cases ha
 | snoc h hx ih=>
  intro a ha h5;rw [ao,aB] at ha;rcases ha with ha | rfl
  ·rcases ih a ha h5 with q | ⟨p,hp,q⟩
   ·exact .inl q
   ·exact .inr ⟨p,by simp [hp],q⟩
  ·rcases hx.par h5 with q | ⟨p,hp,q⟩
   ·exact .inl q
   ·exact .inr ⟨p,by simp [hp],q⟩
theorem zbq(ks:List Mk)(d:Dt)(c:Mk):c∈chK ks d↔c∈ks∧c.m.e.op=5∧c.m.e.ref=d:=by
 suffices h:∀(l:List Mk) (o:List Mk),c∈l.foldl (zc1 d) o↔c∈o∨(c∈l∧c.m.e.op=5∧c.m.e.ref=d) by
  have:=h ks [];simpa [chK] using this
 intro l;induction l with
 | nil=>intro o;simp
 | cons k l ih=>
  intro o;rw [List.foldl_cons,ih]
  have hs:c∈zc1 d o k↔c∈o∨(c=k∧k.m.e.op=5∧k.m.e.ref=d):=by
   unfold zc1;split
   ·rename_i hq
    rw [zba] at hq;rw [zkm];constructor
    ·rintro(rfl | q)
     ·exact .inr ⟨rfl,hq⟩
     ·exact .inl q
    ·rintro(q | ⟨rfl,_⟩)
     ·exact .inr q
     ·exact .inl rfl
   ·rename_i hq
    rw [zba] at hq;constructor
    ·exact .inl
    ·rintro(q | ⟨_,q⟩)
     ·exact q
     ·exact absurd q hq
  rw [hs,ar];constructor
  ·rintro((q | ⟨rfl,q⟩) | ⟨q,r⟩)
   ·exact .inl q
   ·exact .inr ⟨.inl rfl,q⟩
   ·exact .inr ⟨.inr q,r⟩
  ·rintro(q | ⟨rfl | q,r⟩)
   ·exact .inl (.inl q)
   ·exact .inl (.inr ⟨rfl,r⟩)
   ·exact .inr ⟨q,r⟩
theorem zhv(ks:List Mk)(x:Mk)(d:Dt)(h5:x.m.e.op=5)(hd:x.m.e.ref=d):chK (ks++ [x]) d=insK (fun y=>zar y x) (chK ks d) x:=by
 unfold chK;rw [List.foldl_append];show zc1 d (ks.foldl (zc1 d) []) x=_;unfold zc1;rw [aA ⟨h5,(zba _ _).2 hd⟩]
theorem zec(ks:List Mk)(x:Mk)(d:Dt)(h:¬(x.m.e.op=5∧x.m.e.ref=d)):chK (ks++ [x]) d=chK ks d:=by
 unfold chK;rw [List.foldl_append];show zc1 d (ks.foldl (zc1 d) []) x=_;unfold zc1;rw [ap (fun q=>h ⟨q.1,(zba _ _).1 q.2⟩)]
theorem zd3(p:Mk->Bool)(k:Mk):∀(l:List Mk),∃l1 l2,l=l1++l2∧insK p l k=l1++k::l2∧(∀y∈l1,p y=true)∧(∀y,l2.head?=some y->p y=false)
 | []=>⟨[], [],rfl,rfl,fun y hy=>(by cases hy),fun y hy=>(by cases hy)⟩
 | a::l=>by
  by_cases ha:p a=true
  ·obtain⟨l1,l2,h1,h2,h3,h4⟩:=zd3 p k l
   refine⟨a::l1,l2,by rw [h1];rfl, ?_,fun y hy=> ?_,h4⟩
   ·unfold insK insAt at h2 ⊢
    rw [List.takeWhile_cons_of_pos ha,aJ,List.take_succ_cons,List.drop_succ_cons,aR,h2];rfl
   ·rcases ar.1 hy with rfl | hy
    ·exact ha
    ·exact h3 y hy
  ·refine⟨[],a::l,rfl, ?_,fun y hy=>(by cases hy),fun y hy=> ?_⟩
   ·unfold insK insAt
    rw [List.takeWhile_cons_of_neg ha];rfl
   ·cases hy
    simpa using ha
theorem zny(p:Mk->Bool)(k:Mk):∀(l1 l2:List Mk),(∀y∈l1,p y=true)->(∀y,l2.head?=some y->p y=false)->insK p (l1++l2) k=l1++k::l2
 | [],l2,_,h=>by
  cases l2 with
  | nil=>rfl
  | cons a l=>
   have ha:¬p a=true:=by rw [h a rfl];exact Bool.false_ne_true
   unfold insK insAt;rw [List.nil_append,List.takeWhile_cons_of_neg ha];rfl
 | a::l1,l2,h1,h2=>by
  have ih:=zny p k l1 l2 (fun y hy=>h1 y (by simp [hy])) h2;unfold insK insAt at ih ⊢;rw [aR,List.takeWhile_cons_of_pos (h1 a (by simp)),aJ,List.take_succ_cons,List.drop_succ_cons,aR,ih];rfl
theorem zwr(p:Mk->Bool)(k:Mk)(l r:List Mk)(h:∀y,r.head?=some y->p y=false):insK p (l++r) k=insK p l k++r:=by
 obtain⟨l1,l2,rfl,e,h3,h4⟩:=zd3 p k l;rw [e,au,zny p k l1 (l2++r) h3,au]
 ·rfl
 ·intro y hy
  cases l2 with
  | nil=>exact h y (by simpa using hy)
  | cons a l=>exact h4 y (by simpa using hy)
theorem zlc{ks:List Mk}(h:Mks ks)(d:Dt):(chK ks d).Pairwise (fun a b=>zar a b=true):=by
 induction h with
 | nil=>exact List.Pairwise.nil
 | @snoc ks x h hx ih=>
  by_cases hq:x.m.e.op=5∧x.m.e.ref=d
  ·rw [zhv ks x d hq.1 hq.2]
   obtain⟨l1,l2,e1,e2,h3,h4⟩:=zd3 (fun y=>zar y x) x (chK ks d);rw [e2];have hm:∀y,y∈l1++l2->y∈ks:=fun y hy=>zuu (d:=d) (by rw [e1];exact hy)
   rw [e1,List.pairwise_append] at ih;obtain⟨i1,i2,i3⟩:=ih
   have hall:∀y∈l2,zar x y=true:=by
    intro y hy;cases l2 with
    | nil=>cases hy
    | cons a l=>
     have ha:zar x a=true:=by
      rcases hx.tri a (hm a (by simp)) with q | q
      ·exact q
      ·have:=h4 a rfl
       simp only [q] at this;cases this
     rcases ar.1 hy with rfl | hy
     ·exact ha
     ·exact zbp ha ((List.pairwise_cons.1 i2).1 y hy)
   rw [List.pairwise_append];refine⟨i1,List.pairwise_cons.2 ⟨hall,i2⟩,fun a ha b hb=> ?_⟩;rcases ar.1 hb with rfl | hb
   ·exact h3 a ha
   ·exact i3 a ha b hb
  ·rw [zec ks x d hq]
   exact ih
theorem Mks.idx{ks:List Mk}(h:Mks ks):∀i k (hi:i<ks.length) (hk:k<ks.length),ks[k].m.e.op=5->ks[k].m.e.ref=ks[i].d->i<k:=by
 induction h with
 | nil=>intro i k hi;cases hi
 | @snoc ks x h hx ih=>
  intro i k hi hk h5 e;rw [ah,List.length_singleton] at hi hk;by_cases hk1:k<ks.length
  ·by_cases hi1:i<ks.length
   ·rw [List.getElem_append_left hk1] at h5 e
    rw [List.getElem_append_left hi1] at e;exact ih i k hi1 hk1 h5 e
   ·exfalso
    rw [List.getElem_append_left hk1] at e;rw [List.getElem_append_right (by omega)] at e;simp only [List.getElem_singleton] at e;exact(hx.dt _ (aU hk1)).2 e
  ·by_cases hi1:i<ks.length
   ·omega
   ·exfalso
    rw [List.getElem_append_right (by omega),List.getElem_append_right (by omega)] at e;simp only [List.getElem_singleton] at e;exact hx.dx.2 e
theorem zdr{ks:List Mk}(h:Mks ks)(P:Dt->Prop)(step:∀d,(∀c∈chK ks d,P c.d)->P d)(d:Dt):P d:=by
 have hall:∀(n j:Nat) (d:Dt),ks.length - j<=n->(∀i (hi:i<ks.length),ks[i].m.e.op=5->ks[i].m.e.ref=d->j<=i)->P d:=by
  intro n;induction n with
  | zero=>
   intro j d hn hj;refine step d (fun c hc=> ?_);obtain⟨h1,h2,h3⟩:=(zbq ks d c).1 hc;obtain⟨i,hi,rfl⟩:=aI.1 h1;have:=hj i hi h2 h3;omega
  | succ n ih=>
   intro j d hn hj;refine step d (fun c hc=> ?_);obtain⟨h1,h2,h3⟩:=(zbq ks d c).1 hc;obtain⟨i,hi,rfl⟩:=aI.1 h1;have:=hj i hi h2 h3;exact ih (i+1) _ (by omega) (fun k hk q1 q2=>h.idx i k hi hk q1 q2)
 exact hall ks.length 0 d (by omega) (fun i _ _ _=>az i)
theorem zrq{ks:List Mk}(h:Mks ks):∀(n j:Nat) (d:Dt),ks.length - j<=n->(∀i (hi:i<ks.length),ks[i].m.e.op=5->ks[i].m.e.ref=d->j<=i)->treeK ks (n+1) d=treeK ks n d:=by
 intro n;induction n with
 | zero=>
  intro j d hn hj
  have:chK ks d= []:=by
   rw [List.eq_nil_iff_forall_not_mem];intro c hc;obtain⟨h1,h2,h3⟩:=(zbq ks d c).1 hc;obtain⟨i,hi,rfl⟩:=aI.1 h1;have:=hj i hi h2 h3;omega
  unfold treeK;rw [this];rfl
 | succ n ih=>
  intro j d hn hj;show(chK ks d).flatMap (fun c=>c::treeK ks (n+1) c.d)=(chK ks d).flatMap (fun c=>c::treeK ks n c.d);rw [List.flatMap_def,List.flatMap_def];congr 1
  refine List.map_congr_left (fun c hc=> ?_);obtain⟨h1,h2,h3⟩:=(zbq ks d c).1 hc;obtain⟨i,hi,rfl⟩:=aI.1 h1;have:=hj i hi h2 h3;rw [ih (i+1) _ (by omega) (fun k hk q1 q2=>h.idx i k hi hk q1 q2)]
def treeT(ks:List Mk)(d:Dt):List Mk:=treeK ks (ks.length+1) d
theorem zby{ks:List Mk}(h:Mks ks)(d:Dt):treeT ks d=(chK ks d).flatMap (fun c=>c::treeT ks c.d):=by
 unfold treeT;rw [←zrq h (ks.length+1) 0 d (by omega) (fun i _ _ _=>az i)];rfl
theorem zbj{ks:List Mk}(h:Mks ks)(d:Dt)(k:Mk):k∈treeT ks d↔∃c∈chK ks d,k=c∨k∈treeT ks c.d:=by
 rw [zby h d,List.mem_flatMap];simp only [ar]
theorem zdq{ks:List Mk}(h:Mks ks)(d:Dt):∀p∈ks,p.d=d->∀k∈treeT ks d,zar k p=true:=by
 refine zdr h (fun d=>∀p∈ks,p.d=d->∀k∈treeT ks d,zar k p=true) (fun d ih p hp e k hk=> ?_) d;obtain⟨c,hc,hk⟩:=(zbj h d k).1 hk;obtain⟨h1,h2,h3⟩:=(zbq ks d c).1 hc
 have hcp:zar c p=true:=by
  rcases h.par c h1 h2 with q | ⟨p',hp',q1,q2,q3⟩
  ·exact absurd (e.trans (h3.symm.trans q)) (h.d0 p hp)
  ·obtain rfl:p'=p:=h.uniq p' hp' p hp (by rw [q2,h3,e])
   exact q3
 rcases hk with rfl | hk
 ·exact hcp
 ·exact zbp (ih c hc c h1 rfl k hk) hcp
theorem zcb{ks:List Mk}(h:Mks ks)(d:Dt):∀k∈treeT ks d,k∈ks∧k.m.e.op=5:=by
 refine zdr h (fun d=>∀k∈treeT ks d,k∈ks∧k.m.e.op=5) (fun d ih k hk=> ?_) d;obtain⟨c,hc,hk⟩:=(zbj h d k).1 hk;obtain⟨h1,h2,h3⟩:=(zbq ks d c).1 hc;rcases hk with rfl | hk
 ·exact⟨h1,h2⟩
 ·exact ih c hc k hk
theorem zjt{ks:List Mk}(h:Mks ks)(d:Dt):∀k∈treeT ks d,k.m.e.ref=d∨∃p∈treeT ks d,p.d=k.m.e.ref:=by
 refine zdr h (fun d=>∀k∈treeT ks d,k.m.e.ref=d∨∃p∈treeT ks d,p.d=k.m.e.ref) (fun d ih k hk=> ?_) d;obtain⟨c,hc,hk⟩:=(zbj h d k).1 hk;obtain⟨h1,h2,h3⟩:=(zbq ks d c).1 hc;rcases hk with rfl | hk
 ·exact .inl h3
 ·rcases ih c hc k hk with q | ⟨p,hp,q⟩
  ·exact .inr ⟨c,(zbj h d c).2 ⟨c,hc, .inl rfl⟩,q.symm⟩
  ·exact .inr ⟨p,(zbj h d p).2 ⟨c,hc, .inr hp⟩,q⟩
theorem zrp{ks:List Mk}(h:Mks ks)(d:Dt)(a b:Mk)(ha:a∈chK ks d)(hb:b∈chK ks d):∀(n:Nat) (hn:n<ks.length),ks[n]∈a::treeT ks a.d->ks[n]∈b::treeT ks b.d->a=b:=by
 obtain⟨a1,a2,a3⟩:=(zbq ks d a).1 ha;obtain⟨b1,b2,b3⟩:=(zbq ks d b).1 hb
 have key:∀a b:Mk,a∈ks->a.m.e.op=5->a.m.e.ref=d->b∈ks->b.m.e.op=5->b.m.e.ref=d->a∈treeT ks b.d->False:=by
  intro a b a1 a2 a3 b1 b2 b3 hq
  have hbd:∀p∈ks,p.d=d->zar b p=true:=by
   intro p hp e;rcases h.par b b1 b2 with q | ⟨p',hp',q1,q2,q3⟩
   ·exact absurd (e.trans (b3.symm.trans q)) (h.d0 p hp)
   ·obtain rfl:p'=p:=h.uniq p' hp' p hp (by rw [q2,b3,e])
    exact q3
  rcases zjt h b.d a hq with q | ⟨p,hp,q⟩
  ·have:=hbd b b1 (q.symm.trans a3)
   rw [zcn] at this;cases this
  ·have hpk:=(zcb h b.d p hp).1
   have h1:=hbd p hpk (q.trans a3);have h2:=zdq h b.d b b1 rfl p hp;rw [zfs h1] at h2;cases h2
 intro n;induction n using Nat.strongRecOn with
 | _ n ih=>
  intro hn q1 q2;rcases ar.1 q1 with e1 | q1
  ·rcases ar.1 q2 with e2 | q2
   ·exact e1.symm.trans e2
   ·rw [e1] at q2
    exact(key a b a1 a2 a3 b1 b2 b3 q2).elim
  ·rcases ar.1 q2 with e2 | q2
   ·rw [e2] at q1
    exact(key b a b1 b2 b3 a1 a2 a3 q1).elim
   ·have hup:∀c:Mk,c∈ks->ks[n]∈treeT ks c.d->∃p∈c::treeT ks c.d,p∈ks∧p.d=ks[n].m.e.ref:=by
     intro c hc hq;rcases zjt h c.d _ hq with q | ⟨p,hp,q⟩
     ·exact⟨c,by simp,hc,q.symm⟩
     ·exact⟨p,by simp [hp],(zcb h c.d p hp).1,q⟩
    obtain⟨p,hp,hpk,e1⟩:=hup a a1 q1;obtain⟨p',hp',hpk',e2⟩:=hup b b1 q2;obtain rfl:p=p':=h.uniq p hpk p' hpk' (e1.trans e2.symm);obtain⟨i,hi,rfl⟩:=aI.1 hpk;have hlt:=h.idx i n hi hn (zcb h a.d _ q1).2 e1.symm;exact ih i hlt hi hp hp'
theorem zyn{α:Type}{a:α}{l1 l2 A R:List α}(h:l1++a::l2=A++R)(hn:a∉A):∃m,l1=A++m∧R=m++a::l2:=by
 rcases List.append_eq_append_iff.1 h with⟨m,h1,h2⟩ | ⟨m,h1,h2⟩
 ·cases m with
  | nil=>exact⟨[],by simpa using h1.symm,by simpa using h2.symm⟩
  | cons b m=>
   rw [aR,List.cons.injEq] at h2;obtain⟨rfl,h2⟩:=h2;exact absurd (by rw [h1];simp) hn
 ·exact⟨m,h1,h2⟩
theorem zvr{α:Type}{a:α}{m L2 C FB:List α}(h:C++FB=m++a::L2)(hn:a∉FB):∃m',C=m++a::m'∧L2=m'++FB:=by
 rcases List.append_eq_append_iff.1 h with⟨bs,h1,h2⟩ | ⟨bs,h1,h2⟩
 ·exact absurd (by rw [h2];simp) hn
 ·cases bs with
  | nil=>exact absurd (by rw [List.nil_append] at h2;rw [←h2];simp) hn
  | cons b bs=>
   rw [aR,List.cons.injEq] at h2;obtain⟨rfl,h2⟩:=h2;exact⟨bs,h1,h2⟩
theorem zbh{α β:Type}{f g:α->List β}{l:List α}(h:∀c∈l,f c=g c):l.flatMap f=l.flatMap g:=by
 rw [List.flatMap_def,List.flatMap_def];congr 1
 exact List.map_congr_left h
theorem zmn{f:Mk->List Mk}{l:List Mk}{y:Mk}(h:(l.flatMap (fun c=>c::f c)).head?=some y):l.head?=some y:=by
 cases l with
 | nil=>cases h
 | cons a l=>simpa using h
theorem zve{ks:List Mk}(h:Mks ks):∀(n:Nat) (hn:n<ks.length),ks[n].m.e.op=5->ks[n]∈treeT ks ⟨0,0,0⟩:=by
 have hch:∀d,∀p∈treeT ks d,∀k∈ks,k.m.e.op=5->k.m.e.ref=p.d->k∈treeT ks d:=by
  intro d;refine zdr h (fun d=>∀p∈treeT ks d,∀k∈ks,k.m.e.op=5->k.m.e.ref=p.d->k∈treeT ks d) (fun d ih p hp k hk h5 e=> ?_) d;obtain⟨c,hc,hq⟩:=(zbj h d p).1 hp;refine(zbj h d k).2 ⟨c,hc, .inr ?_⟩;rcases hq with rfl | hq
  ·exact(zbj h p.d k).2 ⟨k,(zbq ks p.d k).2 ⟨hk,h5,e⟩, .inl rfl⟩
  ·exact ih c hc p hq k hk h5 e
 intro n;induction n using Nat.strongRecOn with
 | _ n ih=>
  intro hn h5;rcases h.par _ (aU hn) h5 with q | ⟨p,hp,q1,q2,_⟩
  ·exact(zbj h _ _).2 ⟨ks[n],(zbq ks _ _).2 ⟨aU hn,h5,q⟩, .inl rfl⟩
  ·obtain⟨i,hi,rfl⟩:=aI.1 hp
   exact hch _ _ (ih i (h.idx i n hi hn h5 q2.symm) hi q1) _ (aU hn) h5 q2.symm
section
variable {ks : List Mk} {x : Mk}
theorem zvf(h:Mks ks)(hx:Fr ks x):treeT (ks++ [x]) x.d= []:=by
 rw [zby (h.snoc hx)]
 have:chK (ks++ [x]) x.d= []:=by
  rw [List.eq_nil_iff_forall_not_mem];intro c hc;obtain⟨h1,_,h3⟩:=(zbq _ _ c).1 hc;rw [ao,aB] at h1;rcases h1 with h1 | rfl
  ·exact(hx.dt c h1).2 h3
  ·exact hx.dx.2 h3
 rw [this];rfl
theorem zot(h:Mks ks)(hx:Fr ks x)(h5:x.m.e.op ≠ 5)(d:Dt):treeT (ks++ [x]) d=treeT ks d:=by
 refine zdr h (fun d=>treeT (ks++ [x]) d=treeT ks d) (fun d ih=> ?_) d;rw [zby (h.snoc hx),zby h,zec ks x d (fun q=>h5 q.1)];exact zbh (fun c hc=>by rw [ih c hc])
theorem zos(h:Mks ks)(hx:Fr ks x)(h5:x.m.e.op=5)(d:Dt):
  (d=x.m.e.ref->treeT (ks++ [x]) d=insK (fun y=>zar y x) (treeT ks d) x)∧
  (∀l1 pk l2,d ≠ x.m.e.ref->pk.d=x.m.e.ref->treeT ks d=l1++pk::l2->treeT (ks++ [x]) d=l1++pk::insK (fun y=>zar y x) l2 x)∧
  (d ≠ x.m.e.ref->(∀k∈treeT ks d,k.d ≠ x.m.e.ref)->treeT (ks++ [x]) d=treeT ks d):=by
 refine zdr h (fun d=>(d=x.m.e.ref->treeT (ks++ [x]) d=insK (fun y=>zar y x) (treeT ks d) x)∧
  (∀l1 pk l2,d ≠ x.m.e.ref->pk.d=x.m.e.ref->treeT ks d=l1++pk::l2->treeT (ks++ [x]) d=l1++pk::insK (fun y=>zar y x) l2 x)∧
  (d ≠ x.m.e.ref->(∀k∈treeT ks d,k.d ≠ x.m.e.ref)->treeT (ks++ [x]) d=treeT ks d)) (fun d ih=>⟨fun e=> ?_,fun l1 pk l2 hne hpk hsp=> ?_,fun hne hno=> ?_⟩) d
 ·
  subst e
  have hcs:∀c∈chK ks x.m.e.ref,treeT (ks++ [x]) c.d=treeT ks c.d:=by
   intro c hc;obtain⟨h1,h2,h3⟩:=(zbq ks _ c).1 hc
   have hlat:∀k∈ks,k.d=x.m.e.ref->zar c k=true:=by
    intro k hk e;rcases h.par c h1 h2 with q | ⟨p',hp',q1,q2,q3⟩
    ·exact absurd (e.trans (h3.symm.trans q)) (h.d0 k hk)
    ·obtain rfl:p'=k:=h.uniq p' hp' k hk (by rw [q2,h3,e])
     exact q3
   refine(ih c hc).2.2 (fun e=> ?_) (fun k hk e=> ?_)
   ·have:=hlat c h1 e
    rw [zcn] at this;cases this
   ·have a1:=hlat k (zcb h _ k hk).1 e
    have a2:=zdq h c.d c h1 rfl k hk;rw [zfs a1] at a2;cases a2
  rw [zby (h.snoc hx),zhv ks x _ h5 rfl,zby h];obtain⟨l1,l2,e1,e2,h3,h4⟩:=zd3 (fun y=>zar y x) x (chK ks x.m.e.ref);rw [e2,List.flatMap_append,List.flatMap_cons,zvf h hx];have f1:l1.flatMap (fun c=>c::treeT (ks++ [x]) c.d)=l1.flatMap (fun c=>c::treeT ks c.d):=zbh (fun c hc=>by rw [hcs c (by rw [e1];simp [hc])]);have f2:l2.flatMap (fun c=>c::treeT (ks++ [x]) c.d)=l2.flatMap (fun c=>c::treeT ks c.d):=zbh (fun c hc=>by rw [hcs c (by rw [e1];simp [hc])]);rw [f1,f2,e1,List.flatMap_append,zny]
  ·rfl
  ·intro y hy
   obtain⟨c,hc,hy⟩:=List.mem_flatMap.1 hy;have hc1:=h3 c hc;rcases ar.1 hy with rfl | hy
   ·exact hc1
   ·exact zbp (zdq h c.d c (zuu (d:=x.m.e.ref) (by rw [e1];simp [hc])) rfl y hy) hc1
  ·intro y hy
   exact h4 y (zmn hy)
 ·
  have hpT:pk∈treeT ks d:=by rw [hsp];simp
  have hpm:=zcb h d pk hpT
  have hxp:zar x pk=true:=by
   rcases hx.par h5 with q | ⟨p',hp',q1,q2,q3⟩
   ·exact absurd (hpk.trans q) (h.d0 pk hpm.1)
   ·obtain rfl:p'=pk:=h.uniq p' hp' pk hpm.1 (by rw [q2,hpk])
    exact q3
  obtain⟨c,hc,hin⟩:=(zbj h d pk).1 hpT;obtain⟨A,B,hAB⟩:=List.append_of_mem hc;have hcs:=(zbq ks d c).1 hc;obtain⟨np,hnp,hnpe⟩:=aI.1 hpm.1;have hrise:=zlc h d;rw [hAB,List.pairwise_append] at hrise
  have hne2:∀b∈A++B,b ≠ c:=by
   intro b hb e;subst e;rcases ao.1 hb with hb | hb
   ·have:=hrise.2.2 b hb b (by simp)
    rw [zcn] at this;cases this
   ·have:=(List.pairwise_cons.1 hrise.2.1).1 b hb
    rw [zcn] at this;cases this
  have hout:∀b∈A++B,pk∉b::treeT ks b.d:=by
   intro b hb hq
   have hbc:b∈chK ks d:=by
    rw [hAB];rcases ao.1 hb with hb | hb
    ·simp [hb]
    ·simp [hb]
   refine hne2 b hb (zrp h d b c hbc hc np hnp (by rw [hnpe];exact hq) (by rw [hnpe];exact ar.2 hin))
  have hsame:∀b∈A++B,treeT (ks++ [x]) b.d=treeT ks b.d:=by
   intro b hb
   have hbc:b∈chK ks d:=by
    rw [hAB];rcases ao.1 hb with hb | hb
    ·simp [hb]
    ·simp [hb]
   refine(ih b hbc).2.2 (fun e=>hout b hb ?_) (fun k hk e=>hout b hb ?_)
   ·have:b=pk:=h.uniq b ((zbq ks d b).1 hbc).1 pk hpm.1 (e.trans hpk.symm)
    rw [this];simp
   ·have:k=pk:=h.uniq k (zcb h _ k hk).1 pk hpm.1 (e.trans hpk.symm)
    rw [←this];simp [hk]
  have f1:A.flatMap (fun c=>c::treeT (ks++ [x]) c.d)=A.flatMap (fun c=>c::treeT ks c.d):=zbh (fun b hb=>by rw [hsame b (by simp [hb])]);have f2:B.flatMap (fun c=>c::treeT (ks++ [x]) c.d)=B.flatMap (fun c=>c::treeT ks c.d):=zbh (fun b hb=>by rw [hsame b (by simp [hb])])
  have hT:treeT ks d=A.flatMap (fun c=>c::treeT ks c.d)++((c::treeT ks c.d)++B.flatMap (fun c=>c::treeT ks c.d)):=by
   rw [zby h,hAB,List.flatMap_append,List.flatMap_cons]
  have hT':treeT (ks++ [x]) d=A.flatMap (fun c=>c::treeT ks c.d)++((c::treeT (ks++ [x]) c.d)++B.flatMap (fun c=>c::treeT ks c.d)):=by
   rw [zby (h.snoc hx),zec ks x d (fun q=>hne q.2.symm),hAB,List.flatMap_append,List.flatMap_cons,f1,f2]
  have hnA:pk∉A.flatMap (fun c=>c::treeT ks c.d):=by
   intro hq;obtain⟨b,hb,hq⟩:=List.mem_flatMap.1 hq;exact hout b (by simp [hb]) hq
  have hnB:pk∉B.flatMap (fun c=>c::treeT ks c.d):=by
   intro hq;obtain⟨b,hb,hq⟩:=List.mem_flatMap.1 hq;exact hout b (by simp [hb]) hq
  rw [hsp] at hT;obtain⟨m,rfl,hR⟩:=zyn hT hnA;obtain⟨m',hC,rfl⟩:=zvr hR hnB
  have hhead:∀y,(B.flatMap (fun c=>c::treeT ks c.d)).head?=some y->zar y x=false:=by
   intro y hy;have hyB:y∈B:=List.mem_of_mem_head? (zmn hy);have hcy:=(List.pairwise_cons.1 hrise.2.1).1 y hyB;apply zfs;rcases hin with rfl | hin
   ·exact zbp hxp hcy
   ·exact zbp hxp (zbp (zdq h c.d c hcs.1 rfl pk hin) hcy)
  rw [hT',zwr _ _ _ _ hhead];cases m with
  | nil=>
   rw [List.nil_append,List.cons.injEq] at hC;obtain⟨rfl,rfl⟩:=hC;rw [(ih c hc).1 hpk,List.append_nil];rfl
  | cons b m0=>
   rw [aR,List.cons.injEq] at hC;obtain⟨rfl,hC⟩:=hC
   have hcne:c.d ≠ x.m.e.ref:=by
    intro e;have:c=pk:=h.uniq c hcs.1 pk hpm.1 (e.trans hpk.symm);have hl:=zdq h c.d c hcs.1 rfl pk (by rw [hC];simp);rw [this,zcn] at hl;cases hl
   rw [(ih c hc).2.1 m0 pk m' hcne hpk hC];simp only [aR,au]
 ·
  rw [zby (h.snoc hx),zby h,zec ks x d (fun q=>hne q.2.symm)];refine zbh (fun c hc=> ?_);rw [(ih c hc).2.2 (fun e=>hno c ((zbj h d c).2 ⟨c,hc, .inl rfl⟩) e) (fun k hk=>hno k ((zbj h d k).2 ⟨c,hc, .inr hk⟩))]
end
def elK(ks:List Mk)(k:Mk):El:=⟨⟨k.d,k.t⟩,k.m.e.va,goneK ks 6 k.d⟩
theorem zzz(k x:Mk):zkj ⟨k.d,k.t⟩ ⟨x.d,x.t⟩=zar k x:=by
 show decide (0<orI (cmpI k.t x.t) (cmpI k.d.o x.d.o) (cmpI k.d.i x.d.i))=_;unfold zar cmpI;rcases Int.lt_trichotomy k.t x.t with h | h | h
 ·rw [aA h,ap (show¬k.t=x.t by omega)]
  show decide ((0:Int)< -1)=_;rw [decide_eq_false (show¬x.t<k.t by omega)];rfl
 ·rw [ap (by omega),ap (by omega),aA h]
  show decide (0<(if (if k.d.o<x.d.o then(-1:Int) else if x.d.o<k.d.o then 1 else 0)=0 then(if k.d.i<x.d.i then(-1:Int) else if x.d.i<k.d.i then 1 else 0) else(if k.d.o<x.d.o then(-1:Int) else if x.d.o<k.d.o then 1 else 0)))=_;rcases Int.lt_trichotomy k.d.o x.d.o with g | g | g
  ·rw [aA g,ap (by omega),ap (by omega),decide_eq_false (show¬x.d.o<k.d.o by omega)]
   rfl
  ·rw [ap (show¬k.d.o<x.d.o by omega),ap (show¬x.d.o<k.d.o by omega),aA rfl,aA g]
   rcases Int.lt_trichotomy k.d.i x.d.i with f | f | f
   ·rw [aA f,decide_eq_false (show¬x.d.i<k.d.i by omega)]
    rfl
   ·rw [ap (show¬k.d.i<x.d.i by omega),ap (show¬x.d.i<k.d.i by omega),decide_eq_false (show¬x.d.i<k.d.i by omega)]
    rfl
   ·rw [ap (show¬k.d.i<x.d.i by omega),aA f,aT f]
    rfl
  ·rw [ap (show¬k.d.o<x.d.o by omega),aA g,ap (by omega),ap (by omega),aT g]
   rfl
 ·rw [ap (show¬k.t<x.t by omega),aA h,ap (show¬k.t=x.t by omega),aT h]
  rfl
theorem zov(f:Mk->El)(s:Stp)(q:Mk->Bool)(hf:∀k,zd1 s (f k)=q k)(l:List Mk):((l.map f).takeWhile (zd1 s)).length=(l.takeWhile q).length:=by
 rw [List.takeWhile_map,av];congr 2
 funext k
 exact hf k
theorem zy5{ks:List Mk}{x:Mk}(h:Mks ks)(hx:Fr ks x)(h5:x.m.e.op=5)(f:Mk->El)(hf:∀k,(f k).s=⟨k.d,k.t⟩):
  putL ((treeT ks ⟨0,0,0⟩).map f) (f x) x.m.e.ref=(treeT (ks++ [x]) ⟨0,0,0⟩).map f:=by
 have hlat:∀k,zd1 (f x).s (f k)=zar k x:=by
  intro k;unfold zd1;rw [hf,hf,zzz]
 unfold putL ze1 insL;by_cases hr:x.m.e.ref=⟨0,0,0⟩
 ·have hh:headL ((treeT ks ⟨0,0,0⟩).map f) x.m.e.ref=0:=by
   unfold headL;rw [ztd]
   ·rfl
   ·intro e he
    obtain⟨k,hk,rfl⟩:=aG.1 he;rw [←Bool.not_eq_true,zim,hf,hr];exact h.d0 k (zcb h _ k hk).1
  rw [hh,(zos h hx h5 ⟨0,0,0⟩).1 hr.symm,aV,List.drop_zero,zov f (f x).s (fun k=>zar k x) hlat];unfold insK insAt;rw [aO,List.map_cons,List.map_take,List.map_drop]
 ·obtain⟨p,hp,q1,q2,q3⟩:∃p∈ks,p.m.e.op=5∧p.d=x.m.e.ref∧zar x p=true:=by
   rcases hx.par h5 with q | q
   ·exact absurd q hr
   ·exact q
  obtain⟨i,hi,rfl⟩:=aI.1 hp;have hpT:=zve h i hi q1
  obtain⟨l1,l2,hsp,hnl⟩:∃l1 l2,treeT ks ⟨0,0,0⟩=l1++ks[i]::l2∧ks[i]∉l1:=by
   obtain⟨l1,l2,h1,h2⟩:=List.eq_append_cons_of_mem hpT;exact⟨l1,l2,h1,h2⟩
  have hh:headL ((treeT ks ⟨0,0,0⟩).map f) x.m.e.ref=l1.length+1:=by
   unfold headL;rw [hsp,aO,List.map_cons,zte]
   ·rw [av];omega
   ·intro e he
    obtain⟨k,hk,rfl⟩:=aG.1 he;rw [←Bool.not_eq_true,zim,hf];intro e;have:k=ks[i]:=h.uniq k (zcb h _ k (by rw [hsp];simp [hk])).1 _ hp (e.trans q2.symm);exact hnl (by rw [←this];exact hk)
   ·rw [zim,hf];exact q2
  rw [hh,(zos h hx h5 ⟨0,0,0⟩).2.1 l1 ks[i] l2 (fun e=>hr e.symm) q2 hsp,hsp]
  have hd:(List.map f (l1++ks[i]::l2)).drop (l1.length+1)=l2.map f:=by
   rw [←List.map_drop];rw [show l1++ks[i]::l2=(l1++ [ks[i]])++l2 by simp,List.drop_append];simp
  rw [hd,zov f (f x).s (fun k=>zar k x) hlat];unfold insK insAt;generalize (l2.takeWhile (fun k=>zar k x)).length=n
  have e1:(List.map f (l1++ks[i]::l2)).take (l1.length+1+n)=l1.map f++f ks[i]::(l2.take n).map f:=by
   rw [←List.map_take];rw [show l1++ks[i]::l2=(l1++ [ks[i]])++l2 by simp,List.take_append,aM (by simp)];simp
  have e2:(List.map f (l1++ks[i]::l2)).drop (l1.length+1+n)=(l2.drop n).map f:=by
   rw [←List.map_drop];rw [show l1++ks[i]::l2=(l1++ [ks[i]])++l2 by simp,List.drop_append];simp
  rw [e1,e2];simp
