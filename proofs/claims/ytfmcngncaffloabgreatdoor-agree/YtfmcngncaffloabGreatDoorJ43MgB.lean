import Derived.Test.YtfmcngncaffloabGreatDoorJ42SoJ
import Derived.Test.YtfmcngncaffloabGreatDoorJ37RvM
set_option maxHeartbeats 800000
namespace Go.Proofs.YtfmcngncaffloabGreatDoor
open Go.RowKit Go.Proofs.Tryz Wv
set_option maxRecDepth 100000
theorem zzn (v : Value) (w : World) : (method 483 198 v "Values").run prog w = .ok (247, v) w := by kernel_rfl
theorem zzo (v : Value) (w : World) : (method 483 203 v "Values").run prog w = .ok (305, v) w := by kernel_rfl
def Ob.tells:Ob->List Int
 | .counter n=> [n]
 | .list ls=>(stands ls).map El.v
 | .set m=>compI (sortI (m.map (·.2)))
 | .reg m=>rvals m
theorem zja{o:Oper}{a:Act}{w:World}{K:Act->World->Prop}{Q:Exit->Act->World->Prop}(x:Operand)(ats:Array TypeId)
    (hop : o.op = .call { callee := .invoke x "Values", args := #[], argTypes := ats }) (v : Value) (ob : Ob) (own : Clr) (c : Nat) (hx : a.eval x = v)
    (hob:ObAt w own c v ob) (hsm:ob.bound 100000)
    (hK:∀v' w',ze9 w ob.tells (.returned v') w'->K (a.put o.dst v') w'):Oper.wp prog o a w K Q:=by
  have hex : ∀ t q f, v = .iface t q -> (∀ w', (method 483 t q "Values").run prog w' = .ok (f, q) w') -> (callFunc f #[q]).run prog w = .ok (.enter f #[q]) w -> (Calls prog f #[q] w fun e w' => ze9 w ob.tells e w') -> Oper.wp prog o a w K Q := by
    intro t q f hv hm hcf hcalls
    have hrun:(execOp a.eval o).run prog w= .ok (.enter f #[q]) w:=by
      unfold execOp;simp only [hop];simp only [resolve,invoke,Sem.run_bind,Sem.run_pure,Result.andThen_ok,List.map_toArray,List.map_nil,hx,hv];show (callMethod (.iface t q) "Values" #[]).run prog w = _;unfold callMethod;simp [Made.depth,hm,hcf]
    unfold Oper.wp;rw [hrun,Oper.upon_enter];refine hcalls.mono ?_;intro e w' hT;obtain⟨⟨v',he,h2⟩,h3⟩:=hT;subst he;exact hK v' w' ⟨⟨v',rfl,h2⟩,h3⟩
  cases ob with
  | counter n=>
    obtain⟨pp,hveq,hp,hb⟩:=hob;exact hex _ _ _ hveq (fun w'=>zzq _ w') (by kernel_rfl) (zqx pp n w hb)
  | set l=>
    obtain⟨pp,bb,hveq,hp,hp2,hb,hm⟩:=hob;have hs':l.length<=100000:=hsm;exact hex _ _ _ hveq (fun w'=>zzn _ w') (by kernel_rfl) (zoy pp bb l w hb hm (by omega))
  | reg l=>
    obtain⟨pp,bb,hveq,hp,hp2,hb,hm⟩:=hob;have hs':l.length<=100000:=hsm;exact hex _ _ _ hveq (fun w'=>zzo _ w') (by kernel_rfl) (zo6 pp bb l w hb hm (by omega))
  | list ls=>
    obtain⟨pp,sv,hveq,hp,hg,hL⟩:=hob;have hs':ls.length<=100000:=hsm;obtain⟨a1,c1,rfl,hc,hpl2,hat⟩:=hL.form;exact hex _ _ _ hveq (fun w'=>zzp _ w') (by kernel_rfl) (zpu pp a1 c1 ls w hc hpl2 hat (by omega))
theorem zgh{ops:Array Oper}{rest:List Oper}{o:Oper}{a:Act}{w:World}{Q:Exit->Act->World->Prop}(hgd:o.guard=none)(x:Operand)(ats:Array TypeId)
    (hop : o.op = .call { callee := .invoke x "Values", args := #[], argTypes := ats }) (v : Value) (ob : Ob) (own : Clr) (c : Nat) (hx : a.eval x = v)
    (hob:ObAt w own c v ob) (hsm:ob.bound 100000)
    (hh:∀v' w',ze9 w ob.tells (.returned v') w'->wpList prog ops Q rest (a.put o.dst v') w'):
    wpList prog ops Q (o::rest) a w:=by
  refine wpList_plain hgd fun K hK=> ?_
  exact zja x ats hop v ob own c hx hob hsm (fun v' w' h=>hK _ _ (hh v' w' h))
theorem zy4(own:Clr)(c p:Nat)(R:Rp)(cg cc hp:Nat)(mv hv ev:Value)(hs:List Bm)(es:List Em)(k:Nat)(o:Ob)(w:World)(h:RpIn w own c p R cg cc hp mv hv ev hs es)(hk:R.obs[k]?=some o)(hobs:R.obs.length=8)
  (hl:R.clock.length<=1000) (hn0:0<=R.n) (hn1:R.n<R.clock.length) (hs0:∀z∈R.clock,0<=z∧z<=1000000) (ht0:0<=R.time) (ht1:R.time<=1000000000)
  (N:Nat) (hN:N+R.effs.length<=100000) (hbd:o.bound N) (hval:∀e∈R.effs, -1000<=e.va∧e.va<=1000∧e.dots.length<=1048576):
  Calls prog 38 #[.pointer (some ⟨p,0,none⟩),I k] w fun e w'=>zoj w (seeTo (pendB R) k o R.effs.length).tells e w':=by
 have HSM:Hid ((seeTo (pendB R) k o R.effs.length).bound 100000):=Ob.bound_mono (zcu (b:=pendB R) hbd hval R.effs.length (ac _)) hN;have HC:Hid (Calls prog 66 #[.pointer (some ⟨p,0,none⟩),I k] w fun e w'=>SeeOk own (seeTo (pendB R) k o R.effs.length) w e w'):=zez own c p R cg cc hp mv hv ev hs es k o w h hk hobs hl hn0 hn1 hs0 ht0 ht1 N hN hbd hval;generalize seeTo (pendB R) k o R.effs.length=o2 at *
 go_enter func38,ntmps38;go_wp2_with fail
 refine HC.out.mono ?_;rintro e w1 ⟨v,d,own',rfl,hE,hO,hB⟩;have HO:Hid (ObAt w1 own' d v o2):=hO;have HB:Hid (Below w.heap.size w w1):=hB;clear h hk hobs hl hn0 hn1 hs0 ht0 ht1 hN hbd hval hE hO hB HC;obtain⟨tw,pw,hvf⟩:=ObAt.face HO.out;subst hvf
 go_wp2_with (first
  | (refine zgh rfl _ _ rfl (.iface tw pw) o2 own' d (by simp [Act.eval]) HO.out HSM.out ?_;intro v2 w2 hC2;obtain⟨⟨v3,e3,hO3⟩,hB3⟩:=hC2;cases e3;have HO3:Hid (w2.ownsRow w1.heap.size 3 1 v2 o2.tells.length (o2.tells.map I)):=hO3;have HB3:Hid (Below w1.heap.size w1 w2):=hB3;clear hO3 hB3)
  | fail)
 exact bodyPost_ret (v:= .tuple #[v2,I 0]) (by simp [results,Tryz.results38,go_sem]) rfl ⟨v2,rfl,zns HO3.out HB.out.size,HB.out.trans (HB3.out.mono HB.out.size)⟩
instance:DecidableEq Dt:=fun a b=>decidable_of_iff (eqD a b=true) (zba a b)
structure LvO(r s i:Int)(m:Lv):Prop where
 old:∀x∈m,Old r s i x.1
 nd:(m.map (·.1)).Nodup
theorem zn6{d e:Dt}(h:e ≠ d):eqD d e=false:=by rw [←Bool.not_eq_true,zba];exact fun q=>h q.symm
theorem zy7{m:Lv}{d:Dt}(h:∀x∈m,x.1 ≠ d)(v:Int):putD m d v=m++ [(d,v)]:=by
 have:idxD d m=none:=by
  unfold idxD;rw [List.findIdx?_eq_none_iff];exact fun x hx=>zn6 (h x hx)
 unfold putD;rw [this]
theorem zi6:∀{m:Lv} (d:Dt),(m.map (·.1)).Nodup->delD m d=m.filter (fun x=> !eqD d x.1)
 | [],d,_=>rfl
 | x::m,d,h=>by
  rw [List.map_cons,List.nodup_cons] at h;obtain⟨h1,h2⟩:=h;have ih:=zi6 (m:=m) d h2;unfold delD idxD at ih ⊢;rw [List.findIdx?_cons];cases hq:eqD d x.1 with
  | true=>
   rw [List.filter_cons];simp only [hq]
   have:∀y∈m,(!eqD d y.1)=true:=fun y hy=>by
    rw [Bool.not_eq_true',zn6];rintro rfl;rw [zba] at hq;exact h1 (aG.2 ⟨y,hy,hq⟩)
   rw [List.filter_eq_self.2 this];rfl
  | false=>
   rw [List.filter_cons];simp only [hq];cases hz:List.findIdx? (fun x=>eqD d x.1) m with
   | none=>rw [hz] at ih;simpa using ih
   | some j=>rw [hz] at ih;simpa using ih
theorem zdi{m:Lv}(p:Dt×Int->Bool)(h:(m.map (·.1)).Nodup):((m.filter p).map (·.1)).Nodup:=h.sublist (List.filter_sublist.map _)
theorem zdk:∀(ds:List Dt) {m:Lv},(m.map (·.1)).Nodup->delsD m ds=m.filter (fun x=>decide (x.1∉ds))
 | [],m,_=>by
  show m=_;rw [List.filter_eq_self.2];simp
 | d::ds,m,h=>by
  have e:delsD m (d::ds)=delsD (delD m d) ds:=rfl;rw [e,zi6 d h,zdk ds (zdi _ h),List.filter_filter];refine List.filter_congr fun x _=> ?_
  have:(!eqD d x.1)=decide (x.1 ≠ d):=by
   by_cases hq:x.1=d
   ·subst hq;simp [(zba _ _).2 rfl]
   ·rw [zn6 hq];simp [hq]
  rw [this];by_cases h1:x.1=d<;>by_cases h2:x.1∈ds<;>simp [h1,h2]
theorem zho:∀{m:Lv} {d:Dt} {v:Int},(m.map (·.1)).Nodup->(d,v)∈m->getD m d=v
 | x::m,d,v,h,hm=>by
  rw [List.map_cons,List.nodup_cons] at h;unfold getD idxD;rw [List.findIdx?_cons];rcases ar.1 hm with rfl | hm
  ·simp [(zba d d).2 rfl]
  ·have hne:eqD d x.1=false:=zn6 (by rintro rfl;exact h.1 (aG.2 ⟨_,hm,rfl⟩))
   rw [hne];have ih:=zho h.2 hm;unfold getD idxD at ih;cases hz:List.findIdx? (fun x=>eqD d x.1) m with
   | none=>rw [hz] at ih;simpa using ih
   | some j=>rw [hz] at ih;simpa using ih
theorem key_mem{m:Lv}{d:Dt}(h:d∈m.map (·.1)):∃v,(d,v)∈m:=by
 obtain⟨⟨a,v⟩,hx,rfl⟩:=aG.1 h;exact⟨v,hx⟩
theorem zy1{m:Lv}(h:(m.map (·.1)).Nodup)(x:Int)(d:Dt):d∈remD m x↔(d,x)∈m:=by
 unfold remD keepD;rw [List.mem_filter,(zb5 _).mem_iff];constructor
 ·rintro⟨h1,h2⟩
  obtain⟨v,hv⟩:=key_mem h1;have h2:(!(getD m d !=x))=true:=h2;rw [zho h hv] at h2;have:v=x:=by simpa using h2
  rw [←this];exact hv
 ·intro hm
  refine⟨aG.2 ⟨_,hm,rfl⟩, ?_⟩;show(!(getD m d !=x))=true;rw [zho h hm];simp
def Rise(ds:List Dt):Prop:=ds.Pairwise (fun a b=>lessD a b=true)
theorem zpw{a b:Dt}(h:lessD b a=false)(hne:a ≠ b):lessD a b=true:=by
 rw [zb1] at h;rw [zep];have:¬(a.o=b.o∧a.s=b.s∧a.i=b.i):=fun⟨h1,h2,h3⟩=>hne (by cases a;cases b;simp_all)
 omega
theorem zgu{l:List Dt}(h:l.Nodup):Rise (sortD l):=by
 have hs:=zdh l;have hn:(sortD l).Nodup:=(zb5 l).nodup_iff.2 h;unfold Rise;refine(hs.and hn).imp (fun⟨h1,h2⟩=> ?_);exact zpw (by simpa using h1) h2
theorem zv4{m:Lv}(h:(m.map (·.1)).Nodup)(x:Int):Rise (remD m x):=(zgu h).sublist List.filter_sublist
theorem zgb:∀(p:Int) (l:List Int) (x:Int),x∈p::compA p l↔x∈p::l
 | p, [],x=>Iff.rfl
 | p,y::l,x=>by
  unfold compA;split
  ·rename_i e
   subst e;rw [zgb y l x];simp
  ·have:=zgb y l x
   simp only [ar] at this ⊢;rw [this]
theorem zxu(l:List Int)(x:Int):x∈compI l↔x∈l:=by
 match l with
 | []=>exact Iff.rfl
 | y::l=>exact zgb y l x
theorem zg4:∀(p:Int) (l:List Int),(p::l).Pairwise (·<=·)->(p::compA p l).Pairwise (·<·)
 | p, [],_=>by simp [compA]
 | p,y::l,h=>by
  obtain⟨h1,h2⟩:=List.pairwise_cons.1 h;unfold compA;split
  ·rename_i e
   subst e;exact zg4 y l h2
  ·rename_i e
   have ih:=zg4 y l h2;refine List.pairwise_cons.2 ⟨fun z hz=> ?_,ih⟩;have hy:p<y:=by have:=h1 y (List.mem_cons_self ..);omega
   rcases ar.1 ((zgb y l z).1 hz) with rfl | hz'
   ·exact hy
   ·have:=(List.pairwise_cons.1 h2).1 z hz'
    omega
theorem ztt(l:List Int)(h:l.Pairwise (·<=·)):(compI l).Pairwise (·<·):=by
 match l,h with
 | [],_=>exact List.Pairwise.nil
 | y::l,h=>exact zg4 y l h
theorem zuc:∀{l r:List Int},l.Pairwise (·<·)->r.Pairwise (·<·)->(∀x,x∈l↔x∈r)->l=r
 | [], [],_,_,_=>rfl
 | [],y::r,_,_,h=>by have:=(h y).2 (List.mem_cons_self ..);cases this
 | x::l, [],_,_,h=>by have:=(h x).1 (List.mem_cons_self ..);cases this
 | x::l,y::r,hl,hr,h=>by
  obtain⟨l1,l2⟩:=List.pairwise_cons.1 hl;obtain⟨r1,r2⟩:=List.pairwise_cons.1 hr
  have hxy:x=y:=by
   rcases ar.1 ((h x).1 (List.mem_cons_self ..)) with e | e
   ·exact e
   ·rcases ar.1 ((h y).2 (List.mem_cons_self ..)) with e2 | e2
    ·exact e2.symm
    ·have:=r1 x e
     have:=l1 y e2;omega
  subst hxy;rw [zuc l2 r2 (fun z=> ?_)];constructor
  ·intro hz
   rcases ar.1 ((h z).1 (List.mem_cons_of_mem _ hz)) with e | e
   ·subst e;have:=l1 z hz;omega
   ·exact e
  ·intro hz
   rcases ar.1 ((h z).2 (List.mem_cons_of_mem _ hz)) with e | e
   ·subst e;have:=r1 z hz;omega
   ·exact e
def SetRel(m:Lv)(f:List Bool):Prop:=∀x:Int,(∃d,(d,x)∈m)↔0<=x∧f.getD x.toNat false=true
theorem Mks.v2{ks:List Mk}(h:Mks ks):∀k∈ks,k.m.e.op=2->0<=k.m.e.va∧k.m.e.va<=255:=by
 induction h with
 | nil=>intro a ha;cases ha
 | snoc h hx ih=>
  intro a ha;rw [ao,aB] at ha;rcases ha with ha | rfl
  ·exact ih a ha
  ·exact hx.v2
theorem zig(ks:List Mk)(op:Int)(h6:op ≠ 6)(d:Dt):goneK ks op d=true↔∃k∈ks,k.m.e.op=op∧d∈k.m.e.dots:=by
 unfold goneK zn2;rw [List.any_eq_true];constructor
 ·rintro⟨k,hk,h⟩
  simp only [ak,aq,decide_eq_false h6,Bool.false_and,Bool.false_or,List.any_eq_true] at h;obtain⟨h1,y,h2,h3⟩:=h;exact⟨k,hk,h1,by rw [←(zba _ _).1 h3];exact h2⟩
 ·rintro⟨k,hk,h1,h2⟩
  refine⟨k,hk, ?_⟩;simp only [ak,aq,decide_eq_false h6,Bool.false_and,Bool.false_or,List.any_eq_true];exact⟨h1,d,h2,(zba _ _).2 rfl⟩
theorem zfq(ks:List Mk)(mk en:Int)(x:Mk):x∈livK ks mk en↔x∈ks∧x.m.e.op=mk∧goneK ks en x.d=false:=by
 suffices h:∀(l:List Mk) (o:List Mk),x∈l.foldl (zf6 ks mk en) o↔x∈o∨(x∈l∧x.m.e.op=mk∧goneK ks en x.d=false) by
  have:=h ks [];simpa [livK] using this
 intro l;induction l with
 | nil=>intro o;simp
 | cons k l ih=>
  intro o;rw [List.foldl_cons,ih]
  have hs:x∈zf6 ks mk en o k↔x∈o∨(x=k∧k.m.e.op=mk∧goneK ks en k.d=false):=by
   unfold zf6;split
   ·rename_i hq
    rw [zkm];constructor
    ·rintro(rfl | q)
     ·exact .inr ⟨rfl,hq⟩
     ·exact .inl q
    ·rintro(q | ⟨rfl,_⟩)
     ·exact .inr q
     ·exact .inl rfl
   ·rename_i hq
    constructor
    ·exact .inl
    ·rintro(q | ⟨_,q⟩)
     ·exact q
     ·exact absurd q hq
  rw [hs,ar];constructor
  ·rintro((q | ⟨rfl,q⟩) | ⟨q,r⟩)
   ·exact .inl q
   ·exact .inr ⟨.inl rfl,q⟩
   ·exact .inr ⟨.inr q,r⟩
  ·rintro(q | ⟨rfl | q,r⟩)
   ·exact .inl (.inl q)
   ·exact .inl (.inr ⟨rfl,r⟩)
   ·exact .inr ⟨q,r⟩
theorem zfr{a b c:Dt}(h1:lessD a b=true)(h2:lessD b c=true):lessD a c=true:=by
 rw [zep] at *
 omega
theorem zh7{ks:List Mk}(h:Mks ks)(mk en:Int):Rise ((livK ks mk en).map (·.d)):=by
 have hnd:=h.nd;suffices hs:∀(l:List Mk) (o:List Mk),(o.map (·.d)++l.map (·.d)).Nodup->Rise (o.map (·.d))->Rise ((l.foldl (zf6 ks mk en) o).map (·.d)) from hs ks [] (by simpa using hnd) List.Pairwise.nil
 intro l;induction l with
 | nil=>intro o _ ho;exact ho
 | cons k l ih=>
  intro o hn ho;rw [List.foldl_cons];unfold zf6;split
  ·obtain⟨l1,l2,e1,e2,h3,h4⟩:=zd3 (fun x=>lessD x.d k.d) k o
   rw [e2]
   have hko:∀y∈o,y.d ≠ k.d:=by
    intro y hy e;rw [List.nodup_append] at hn;exact hn.2.2 y.d (aG.2 ⟨y,hy,rfl⟩) k.d (by simp) e
   refine ih _ ?_ ?_
   ·have hp:((l1++k::l2).map (·.d)++l.map (·.d)).Perm (o.map (·.d)++(k::l).map (·.d)):=by
     rw [e1];simp only [aO,List.map_cons,au,aR];refine List.Perm.append_left _ ?_;exact(List.perm_middle).symm
    exact hp.nodup_iff.2 hn
   ·rw [e1,aO] at ho
    unfold Rise at ho ⊢;rw [List.pairwise_append] at ho;obtain⟨i1,i2,i3⟩:=ho;rw [aO,List.map_cons,List.pairwise_append]
    have hall:∀y∈l2,lessD k.d y.d=true:=by
     intro y hy;cases l2 with
     | nil=>cases hy
     | cons a l2=>
      have ha:lessD k.d a.d=true:=zpw (h4 a rfl) (fun e=>hko a (by rw [e1];simp) e.symm);rcases ar.1 hy with rfl | hy
      ·exact ha
      ·rw [List.map_cons,List.pairwise_cons] at i2
       exact zfr ha (i2.1 y.d (aG.2 ⟨y,hy,rfl⟩))
    refine⟨i1,List.pairwise_cons.2 ⟨fun b hb=> ?_,i2⟩,fun a ha b hb=> ?_⟩
    ·obtain⟨y,hy,rfl⟩:=aG.1 hb
     exact hall y hy
    ·obtain⟨y,hy,rfl⟩:=aG.1 ha
     rcases ar.1 hb with rfl | hb
     ·exact h3 y hy
     ·exact i3 _ (aG.2 ⟨y,hy,rfl⟩) _ hb
  ·refine ih o ?_ ho
   rw [List.map_cons] at hn;exact hn.sublist (List.Sublist.append_left (List.sublist_cons_self _ _) _)
theorem zh8(a:Dt):lessD a a=false:=by rw [zb1];omega
theorem zl8:∀{l r:List Dt},Rise l->Rise r->(∀x,x∈l↔x∈r)->l=r
 | [], [],_,_,_=>rfl
 | [],y::r,_,_,h=>by have:=(h y).2 (List.mem_cons_self ..);cases this
 | x::l, [],_,_,h=>by have:=(h x).1 (List.mem_cons_self ..);cases this
 | x::l,y::r,hl,hr,h=>by
  obtain⟨l1,l2⟩:=List.pairwise_cons.1 hl;obtain⟨r1,r2⟩:=List.pairwise_cons.1 hr
  have asy:∀{a b:Dt},lessD a b=true->lessD b a=true->False:=fun h1 h2=>by
   have:=zfr h1 h2;rw [zh8] at this;cases this
  have hxy:x=y:=by
   rcases ar.1 ((h x).1 (List.mem_cons_self ..)) with e | e
   ·exact e
   ·rcases ar.1 ((h y).2 (List.mem_cons_self ..)) with e2 | e2
    ·exact e2.symm
    ·exact(asy (l1 y e2) (r1 x e)).elim
  subst hxy
  have hne:∀(l:List Dt),(∀a∈l,lessD x a=true)->x∉l:=fun l hl hx=>by
   have:=hl x hx;rw [zh8] at this;cases this
  have hx1:=hne l l1;have hx2:=hne r r1;rw [zl8 l2 r2 (fun z=> ?_)];constructor
  ·intro hz
   rcases ar.1 ((h z).1 (List.mem_cons_of_mem _ hz)) with e | e
   ·subst e;exact absurd hz hx1
   ·exact e
  ·intro hz
   rcases ar.1 ((h z).2 (List.mem_cons_of_mem _ hz)) with e | e
   ·subst e;exact absurd hz hx2
   ·exact e
def LvV(ks:List Mk)(mk en:Int)(m:Lv):Prop:=(m.map (·.1)).Nodup∧∀d v,(d,v)∈m↔∃k∈ks,k.m.e.op=mk∧goneK ks en k.d=false∧k.d=d∧k.m.e.va=v
theorem LvV.nil(mk en:Int):LvV [] mk en []:=⟨by simp,fun d v=>by simp⟩
section
variable {ks : List Mk} {mk en : Int} {m : Lv} {x : Mk}
theorem LvV.liv(h:LvV ks mk en m){k:Mk}(hk:k∈livK ks mk en):(k.d,k.m.e.va)∈m:=by
 obtain⟨h1,h2,h3⟩:=(zfq ks mk en k).1 hk;exact(h.2 _ _).2 ⟨k,h1,h2,h3,rfl,rfl⟩
theorem LvV.keys(h:LvV ks mk en m)(hk:Mks ks):sortD (m.map (·.1))=(livK ks mk en).map (·.d):=by
 refine zl8 (zgu h.1) (zh7 hk mk en) (fun d=> ?_);rw [(zb5 _).mem_iff,aG,aG];constructor
 ·rintro⟨⟨d',v⟩,hm,rfl⟩
  obtain⟨k,h1,h2,h3,rfl,_⟩:=(h.2 _ _).1 hm;exact⟨k,(zfq ks mk en k).2 ⟨h1,h2,h3⟩,rfl⟩
 ·rintro⟨k,hl,rfl⟩
  exact⟨_,h.liv hl,rfl⟩
theorem LvV.rvals(h:LvV ks mk en m)(hk:Mks ks):rvals m=(livK ks mk en).map (·.m.e.va):=by
 unfold Go.Proofs.YtfmcngncaffloabGreatDoor.rvals;rw [h.keys hk,List.map_map];exact List.map_congr_left (fun k hl=>zho h.1 (h.liv hl))
theorem LvV.set(h:LvV ks 2 3 m)(hk:Mks ks):compI (sortI (m.map (·.2)))=setK ks:=by
 unfold setK;refine zuc (ztt _ (zey _)) ?_ (fun v=> ?_)
 ·refine List.Pairwise.sublist List.filter_sublist ?_
  rw [List.pairwise_map];exact List.pairwise_lt_range.imp (fun h=>by omega)
 ·rw [zxu,(zdt _).mem_iff,aG,List.mem_filter,aG]
  constructor
  ·rintro⟨⟨d,v'⟩,hm,rfl⟩
   obtain⟨k,h1,h2,h3,h4,h5⟩:=(h.2 _ _).1 hm;have hv:=hk.v2 k h1 h2;rw [h5] at hv;refine⟨⟨v'.toNat,by rw [List.mem_range];omega,by show((v'.toNat:Nat):Int)=v';omega⟩, ?_⟩;rw [List.any_eq_true];exact⟨k,(zfq ks 2 3 k).2 ⟨h1,h2,h3⟩,by simpa using h5⟩
  ·rintro⟨_,hv⟩
   rw [List.any_eq_true] at hv;obtain⟨k,hl,hv⟩:=hv;exact⟨_,h.liv hl,by simpa using hv⟩
theorem zcy(hx:Fr ks x)(h6:en ≠ 6)(d:Dt):goneK (ks++ [x]) en d=false↔goneK ks en d=false∧¬(x.m.e.op=en∧d∈x.m.e.dots):=by
 rw [←Bool.not_eq_true,←Bool.not_eq_true,zig _ _ h6,zig _ _ h6];constructor
 ·intro h
  exact⟨fun⟨k,hk,q⟩=>h ⟨k,by simp [hk],q⟩,fun q=>h ⟨x,by simp,q⟩⟩
 ·rintro⟨h1,h2⟩ ⟨k,hk,q⟩
  rw [ao,aB] at hk;rcases hk with hk | rfl
  ·exact h1 ⟨k,hk,q⟩
  ·exact h2 q
theorem gone_new(hx:Fr ks x)(h6:en ≠ 6):goneK (ks++ [x]) en x.d=false:=by
 rw [zcy hx h6,←Bool.not_eq_true,zig _ _ h6];exact⟨fun⟨k,hk,_,q⟩=>(hx.dt k hk).1 q,fun q=>hx.dx.1 q.2⟩
theorem LvV.del(h:LvV ks mk en m)(hx:Fr ks x)(h6:en ≠ 6)(ho:x.m.e.op=en)(hm:x.m.e.op ≠ mk):LvV (ks++ [x]) mk en (delsD m x.m.e.dots):=by
 rw [zdk _ h.1];refine⟨zdi _ h.1,fun d v=> ?_⟩;rw [List.mem_filter,h.2];constructor
 ·rintro⟨⟨k,h1,h2,h3,rfl,h5⟩,hd⟩
  exact⟨k,by simp [h1],h2,(zcy hx h6 _).2 ⟨h3,fun q=>(aS hd) q.2⟩,rfl,h5⟩
 ·rintro⟨k,h1,h2,h3,rfl,h5⟩
  rw [zcy hx h6] at h3;rw [ao,aB] at h1;rcases h1 with h1 | rfl
  ·exact⟨⟨k,h1,h2,h3.1,rfl,h5⟩,aT (fun q=>h3.2 ⟨ho,q⟩)⟩
  ·exact absurd h2 hm
theorem LvV.keep(h:LvV ks mk en m)(hx:Fr ks x)(h6:en ≠ 6)(ho:x.m.e.op ≠ en)(hm:x.m.e.op ≠ mk):LvV (ks++ [x]) mk en m:=by
 refine⟨h.1,fun d v=> ?_⟩;rw [h.2];constructor
 ·rintro⟨k,h1,h2,h3,rfl,h5⟩
  exact⟨k,by simp [h1],h2,(zcy hx h6 _).2 ⟨h3,fun q=>ho q.1⟩,rfl,h5⟩
 ·rintro⟨k,h1,h2,h3,rfl,h5⟩
  rw [zcy hx h6] at h3;rw [ao,aB] at h1;rcases h1 with h1 | rfl
  ·exact⟨k,h1,h2,h3.1,rfl,h5⟩
  ·exact absurd h2 hm
theorem LvV.put(h:LvV ks mk en m)(hx:Fr ks x)(h6:en ≠ 6)(hm:x.m.e.op=mk)(ds:List Dt)(hds:∀d,(d∈ds↔x.m.e.op=en∧d∈x.m.e.dots)):LvV (ks++ [x]) mk en (putD (delsD m ds) x.d x.m.e.va):=by
 rw [zdk _ h.1]
 have hnew:∀y∈m.filter (fun y=>decide (y.1∉ds)),y.1 ≠ x.d:=by
  intro y hy e;obtain⟨k,h1,_,_,h4,_⟩:=(h.2 y.1 y.2).1 (List.mem_filter.1 hy).1;exact hx.nw k h1 (h4.trans e)
 rw [zy7 hnew];refine⟨?_,fun d v=> ?_⟩
 ·rw [aO,List.nodup_append]
  refine⟨zdi _ h.1,by simp,fun a ha b hb=> ?_⟩;obtain⟨y,hy,rfl⟩:=aG.1 ha;simp only [List.map_cons,List.map_nil,aB] at hb;rw [hb];exact hnew y hy
 ·rw [ao,List.mem_filter,h.2,aB]
  constructor
  ·rintro(⟨⟨k,h1,h2,h3,rfl,h5⟩,hd⟩ | e)
   ·exact⟨k,by simp [h1],h2,(zcy hx h6 _).2 ⟨h3,fun q=>(aS hd) ((hds _).2 q)⟩,rfl,h5⟩
   ·cases e
    exact⟨x,by simp,hm,gone_new hx h6,rfl,rfl⟩
  ·rintro⟨k,h1,h2,h3,rfl,h5⟩
   rw [ao,aB] at h1;rcases h1 with h1 | rfl
   ·rw [zcy hx h6] at h3
    exact .inl ⟨⟨k,h1,h2,h3.1,rfl,h5⟩,aT (fun q=>h3.2 ((hds _).1 q))⟩
   ·exact .inr (by rw [h5])
end
theorem zzr (v : Value) (w : World) : (method 483 198 v "Effect").run prog w = .ok (245, v) w := by kernel_rfl
theorem zzs (v : Value) (w : World) : (method 483 203 v "Effect").run prog w = .ok (303, v) w := by kernel_rfl
structure Sya where
 va:Int
 ref:Dt
 ds:List Dt
 err:Int
def Ob.answer:Ob->Int->Int->Int->Sya
 | .counter _,_,x,_=>⟨(addE x).1,⟨0,0,0⟩, [],(addE x).2⟩
 | .list ls,op,x,y=>⟨(listE ls op x y).1,(listE ls op x y).2.1, [],(listE ls op x y).2.2⟩
 | .set m,op,x,_=>⟨(setE m op x).1,⟨0,0,0⟩,(setE m op x).2.1,(setE m op x).2.2⟩
 | .reg m,_,x,_=>⟨(regE m x).1,⟨0,0,0⟩,(regE m x).2.1,(regE m x).2.2⟩
abbrev syV (s:Sya) (a:Option Addr) (c:Nat):Value:= .agg #[I 0,I 0,I s.va,I s.ref.o,I s.ref.s,I s.ref.i, .slice a s.ds.length c]
def SyaOk(w:World)(s:Sya)(e:Ending)(w':World):Prop:=∃a c,e= .returned (.tuple #[syV s a c,I s.err])∧At w' a (flat zac s.ds)∧(∀p,a=some p->w.heap.size<=p.block)∧Below w.heap.size w w'
theorem zhy{o:Oper}{a:Act}{w:World}{K:Act->World->Prop}{Q:Exit->Act->World->Prop}(x y1 y2 y3:Operand)(ats:Array TypeId)
    (hop : o.op = .call { callee := .invoke x "Effect", args := #[y1, y2, y3], argTypes := ats }) (v : Value) (ob : Ob) (op s t : Int) (own : Clr) (c : Nat) (hx : a.eval x = v) (h1 : a.eval y1 = I op) (h2 : a.eval y2 = I s) (h3 : a.eval y3 = I t)
    (hob:ObAt w own c v ob) (hsm:ob.bound 100000)
    (hK:∀a1 c1 w',At w' a1 (flat zac (ob.answer op s t).ds)->(∀p,a1=some p->w.heap.size<=p.block)->Below w.heap.size w w'->K (a.put o.dst (.tuple #[syV (ob.answer op s t) a1 c1,I (ob.answer op s t).err])) w'):Oper.wp prog o a w K Q:=by
  have hex : ∀ t1 q f, v = .iface t1 q -> (∀ w', (method 483 t1 q "Effect").run prog w' = .ok (f, q) w') -> (callFunc f #[q, I op, I s, I t]).run prog w = .ok (.enter f #[q, I op, I s, I t]) w -> (Calls prog f #[q, I op, I s, I t] w fun e w' => SyaOk w (ob.answer op s t) e w') -> Oper.wp prog o a w K Q := by
    intro t1 q f hv hm hcf hcalls
    have hrun:(execOp a.eval o).run prog w= .ok (.enter f #[q,I op,I s,I t]) w:=by
      unfold execOp;simp only [hop];simp only [resolve,invoke,Sem.run_bind,Sem.run_pure,Result.andThen_ok,List.map_toArray,List.map_cons,List.map_nil,hx,h1,h2,h3,hv];show (callMethod (.iface t1 q) "Effect" #[I op, I s, I t]).run prog w = _;unfold callMethod;simp [Made.depth,hm,hcf]
    unfold Oper.wp;rw [hrun,Oper.upon_enter];refine hcalls.mono ?_;rintro e w' ⟨a1,c1,rfl,hA,hq,hB⟩;exact hK a1 c1 w' hA hq hB
  cases ob with
  | counter n=>
    obtain⟨pp,hveq,hp,hb⟩:=hob;exact hex _ _ _ hveq (fun w'=>zzu _ w') (by kernel_rfl) ((zq9 pp op s t w).mono (fun e w' h=>⟨none,0,h.1,ze3 _,(fun p hp=>by cases hp),h.2⟩))
  | set l=>
    obtain⟨pp,bb,hveq,hp,hp2,hb,hm⟩:=hob;have hs':l.length<=100000:=hsm;exact hex _ _ _ hveq (fun w'=>zzr _ w') (by kernel_rfl) (zo5 pp bb l op s t w hb hm (by omega))
  | reg l=>
    obtain⟨pp,bb,hveq,hp,hp2,hb,hm⟩:=hob;have hs':l.length<=100000:=hsm;exact hex _ _ _ hveq (fun w'=>zzs _ w') (by kernel_rfl) (zpc pp bb l op s t w hb hm (by omega))
  | list ls=>
    obtain⟨pp,sv,hveq,hp,hg,hL⟩:=hob;have hs':ls.length<=100000:=hsm;obtain⟨a1,c1,rfl,hc,hpl2,hat⟩:=hL.form;exact hex _ _ _ hveq (fun w'=>zzt _ w') (by kernel_rfl) ((zpy pp a1 c1 ls op s t w hc hpl2 hat (by omega)).mono (fun e w' h=>⟨none,0,h.1,ze3 _,(fun p hp=>by cases hp),h.2⟩))
theorem zbm{ops:Array Oper}{rest:List Oper}{o:Oper}{a:Act}{w:World}{Q:Exit->Act->World->Prop}(hgd:o.guard=none)(x y1 y2 y3:Operand)(ats:Array TypeId)
    (hop : o.op = .call { callee := .invoke x "Effect", args := #[y1, y2, y3], argTypes := ats }) (v : Value) (ob : Ob) (op s t : Int) (own : Clr) (c : Nat) (hx : a.eval x = v) (h1 : a.eval y1 = I op) (h2 : a.eval y2 = I s) (h3 : a.eval y3 = I t)
    (hob:ObAt w own c v ob) (hsm:ob.bound 100000)
    (hh:∀a1 c1 w',At w' a1 (flat zac (ob.answer op s t).ds)->(∀p,a1=some p->w.heap.size<=p.block)->Below w.heap.size w w'->wpList prog ops Q rest (a.put o.dst (.tuple #[syV (ob.answer op s t) a1 c1,I (ob.answer op s t).err])) w'):
    wpList prog ops Q (o::rest) a w:=by
  refine wpList_plain hgd fun K hK=> ?_
  exact zhy x y1 y2 y3 ats hop v ob op s t own c hx h1 h2 h3 hob hsm (fun a1 c1 w' h1 h2 h3=>hK _ _ (hh a1 c1 w' h1 h2 h3))
def Ob.kind:Ob->Nat
 | .counter _=>0
 | .set _=>1
 | .reg _=>2
 | .list _=>3
def OV(ks:List Mk):Ob->Prop
 | .counter n=>n=sumK ks
 | .set m=>LvV ks 2 3 m
 | .reg m=>LvV ks 4 4 m
 | .list ls=>ls=(treeT ks ⟨0,0,0⟩).map (elK ks)
theorem ze5{ks:List Mk}{x:Mk}(hx:Fr ks x)(d:Dt):goneK (ks++ [x]) 6 d=(goneK ks 6 d || (decide (x.m.e.op=6) && eqD x.m.e.ref d)):=by
 unfold goneK;rw [List.any_append];congr 1
 simp only [List.any_cons,List.any_nil,Bool.or_false];unfold zn2;by_cases h:x.m.e.op=6
 ·rw [hx.e6 h]
  simp [h]
 ·simp [h]
theorem zw5{ks:List Mk}{x:Mk}(hx:Fr ks x):goneK (ks++ [x]) 6 x.d=false:=by
 rw [ze5 hx]
 have h1:goneK ks 6 x.d=false:=by
  rw [←Bool.not_eq_true];unfold goneK;rw [List.any_eq_true];rintro⟨k,hk,h⟩;unfold zn2 at h;simp only [ak,Bool.or_eq_true,aq,List.any_eq_true] at h;rcases h.2 with q | ⟨y,q1,q2⟩
  ·exact(hx.dt k hk).2 ((zba _ _).1 q.2)
  ·exact(hx.dt k hk).1 (by rw [←(zba _ _).1 q2];exact q1)
 have h2:eqD x.m.e.ref x.d=false:=by rw [←Bool.not_eq_true,zba];exact hx.dx.2
 rw [h1,h2];simp
theorem OV.take{ks:List Mk}{o:Ob}{x:Mk}(h:OV ks o)(hk:Mks ks)(hx:Fr ks x)(hr:o.kind=2->x.m.e.op=4):OV (ks++ [x]) (o.take ⟨x.d,x.t⟩ x.m.e):=by
 cases o with
 | counter n=>
  show n+x.m.e.va=sumK (ks++ [x]);have h:n=sumK ks:=h;rw [h];unfold sumK;simp
 | set m=>
  show LvV (ks++ [x]) 2 3 (takeS m ⟨x.d,x.t⟩ x.m.e);unfold takeS;split
  ·rename_i h2
   have:=LvV.put (m:=m) (en:=3) h hx (by omega) h2 [] (fun d=>⟨fun q=>(by cases q),fun q=>by omega⟩);exact this
  ·rename_i h2
   split
   ·rename_i h3
    exact LvV.del h hx (by omega) h3 h2
   ·rename_i h3
    exact LvV.keep h hx (by omega) h3 h2
 | reg m=>
  have h4:x.m.e.op=4:=hr rfl;exact LvV.put (m:=m) h hx (by omega) h4 x.m.e.dots (fun d=>⟨fun q=>⟨h4,q⟩,fun q=>q.2⟩)
 | list ls=>
  have h:ls=(treeT ks ⟨0,0,0⟩).map (elK ks):=h;show takeL ls ⟨x.d,x.t⟩ x.m.e=_;unfold takeL;split
  ·rename_i h5
   have hel:∀d,goneK (ks++ [x]) 6 d=goneK ks 6 d:=by
    intro d;rw [ze5 hx,decide_eq_false (show¬x.m.e.op=6 by omega)];simp
   have e1:elK (ks++ [x])=elK ks:=by
    funext k
    unfold elK;rw [hel]
   have e2:(⟨⟨x.d,x.t⟩,x.m.e.va,false⟩:El)=elK ks x:=by
    unfold elK;rw [←hel,zw5 hx]
   rw [h,e1,e2];exact zy5 hk hx h5 (elK ks) (fun k=>rfl)
  ·rename_i h5
   rw [zot hk hx h5];split
   ·rename_i h6
    rw [h,List.map_map];refine List.map_congr_left (fun k _=> ?_);show markE x.m.e.ref (elK ks k)=elK (ks++ [x]) k;unfold markE elK;rw [ze5 hx,aT h6,Bool.true_and];show(if eqD k.d x.m.e.ref=true then _ else _)=_;by_cases hq:k.d=x.m.e.ref
    ·rw [aA ((zba _ _).2 hq),(zba _ _).2 hq.symm,Bool.or_true]
    ·have h1:eqD x.m.e.ref k.d=false:=by rw [←Bool.not_eq_true,zba];exact fun e=>hq e.symm
     rw [ap (fun q=>hq ((zba _ _).1 q)),h1,Bool.or_false]
   ·rename_i h6
    rw [h];refine List.map_congr_left (fun k _=> ?_);unfold elK;rw [ze5 hx,decide_eq_false h6];simp
theorem OV.stands{ks:List Mk}{ls:List El}(h:OV ks (.list ls)):stands ls=(zik ks).map (elK ks):=by
 have h:ls=(treeT ks ⟨0,0,0⟩).map (elK ks):=h;rw [h];unfold Go.Proofs.YtfmcngncaffloabGreatDoor.stands zik;rw [List.filter_map];rfl
theorem OV.tells{ks:List Mk}{o:Ob}(h:OV ks o)(hk:Mks ks):o.tells=zoc ks o.kind:=by
 cases o with
 | counter n=>
  have h:n=sumK ks:=h;show [n]= [sumK ks]
  rw [h]
 | set m=>exact LvV.set h hk
 | reg m=>exact LvV.rvals h hk
 | list ls=>
  show(Go.Proofs.YtfmcngncaffloabGreatDoor.stands ls).map El.v=(zik ks).map (·.m.e.va);rw [h.stands,List.map_map];rfl
theorem OV.new(k:Nat):OV [] (if k=0 then .counter 0 else if k=1 then .set [] else if k=2 then .reg [] else .list []):=by
 split
 ·rfl
 ·split
  ·exact LvV.nil _ _
  ·split
   ·exact LvV.nil _ _
   ·rfl
theorem Ob.take_kind(o:Ob)(s:Stp)(e:Ef):(o.take s e).kind=o.kind:=by cases o<;>rfl
theorem sy_at0{w:World}{own:Clr}{n:Nat}{a:Option Addr}{cs:List Value}(h:At w a cs)(hq:∀p,a=some p->n<=p.block)(o:Obj):At0 (w.alloc o) (newTo own n 0) a cs:=by
 intro j u hj;obtain⟨b,q,e,hc⟩:=h j u hj;exact⟨b,q,e,zaf _ _ _ _ (hq _ e),zaa ((Below.refl _ w).alloc (ac _) o) hc⟩
def syE(op k:Int)(s:Sya):Ef:=⟨op,k,s.va,s.ref,s.ds⟩
theorem do_put(own:Clr)(c p:Nat)(R:Rp)(cg cc hp:Nat)(mv hv ev:Value)(hs:List Bm)(es:List Em)(op x y:Int)(k:Nat)(o:Ob)(w w0:World)(eb ef:Addr)(hen:Env w0 w own eb ef)(h:RpIn w own c p R cg cc hp mv hv ev hs es)(h1:R.st=1)(hop:1<=op∧op<=6)(hc0:0<c)(hn5:es.length<5)(sy:Sya)(hsy:(seeTo (pendB R) k o R.effs.length).answer op x y=sy)(hls:¬(sy.ds.length:Int)<rLeastD op)(hms:¬(sy.ds.length:Int)>rMostD op)(hkd:(k:Int) % 4=rKind op)(her:sy.err=0)
  (hk:R.obs[k]?=some o) (hobs:R.obs.length=8)
  (hl:R.clock.length<=1000) (hn0:0<=R.n) (hn1:R.n<R.clock.length) (hs0:∀z∈R.clock,0<=z∧z<=1000000) (ht0:0<=R.time) (ht1:R.time<=1000000000)
  (N:Nat) (hN:N+R.effs.length<=100000) (hbd:o.bound N) (hval:∀e∈R.effs, -1000<=e.va∧e.va<=1000∧e.dots.length<=1048576):
  Calls prog 40 #[.pointer (some ⟨p,0,none⟩),I op,I k,I x,I y] w fun e w'=>e= .returned (I 0)∧∃a1 c1,AddOk w own c p {R with effs:=R.effs++ [syE op k sy]} cg cc hp mv hv hs (es++ [⟨syE op k sy,a1,c1⟩]) w':=by
 have HLS:Hid (¬(sy.ds.length:Int)<rLeastD op):=hls;have HMS:Hid (¬(sy.ds.length:Int)>rMostD op):=hms;clear hls hms;have HRW:Hid (RpIn w own c p R cg cc hp mv hv ev hs es):=h;have c1:w.cell? ⟨p,1,none⟩=some (I R.st):=h.blk.cell 1;have hb:(R.st==1)=true:=by simp [h1]
 have HC:Hid (Calls prog 66 #[.pointer (some ⟨p,0,none⟩),I k] w fun e w'=>SeeOk own (seeTo (pendB R) k o R.effs.length) w e w'):=zez own c p R cg cc hp mv hv ev hs es k o w h hk hobs hl hn0 hn1 hs0 ht0 ht1 N hN hbd hval;have HEN:Hid (Env w0 w own eb ef):=hen;have HOP:Hid (1<=op∧op<=6):=hop;have hA1:(0:Int)<=k:=by omega
 have hA2:(k:Int)<=7:=by
  obtain⟨h,_⟩:=af.1 hk;omega
 have hB:(rKind op !=(k:Int) % 4)=false:=by simpa using hkd.symm
 have HSM:Hid ((seeTo (pendB R) k o R.effs.length).bound 100000):=Ob.bound_mono (zcu (b:=pendB R) hbd hval R.effs.length (ac _)) hN;have HSY:Hid ((seeTo (pendB R) k o R.effs.length).answer op x y=sy):=hsy;have HER:Hid (sy.err=0):=her;clear h h1 hen hk hobs hl hn0 hn1 hs0 ht0 ht1 hN hbd hval hop hkd her hsy;generalize seeTo (pendB R) k o R.effs.length=o2 at *
 go_enter func40,ntmps40;go_wp2_with fail
 refine HC.out.mono ?_;rintro e w1 ⟨v,d,own',rfl,hE,hO,hB⟩;have HB:Hid (Below w.heap.size w w1):=hB;obtain⟨tw,pw,hvf⟩:=ObAt.face hO;subst hvf;have HO:Hid (ObAt w1 own' d (.iface tw pw) o2):=hO;clear hE hO hB HC;go_wp2_with fail
 refine(zbg op w1 eb ef (HEN.out.below HB.out) HOP.out).mono ?_;rintro e w2 ⟨rfl,hB2⟩;unfold ruleV;have HBX:Hid (Below w1.heap.size w1 w2):=hB2;have HB2:Hid (Below w.heap.size w w2):=HB.out.trans (hB2.mono HB.out.size);clear hB2;go_wp2_with fail
 go_quiet (first | (go_at_call 68;exact Calls.quiet_of_same (zb7 _ hA1 hA2 _)))
 obtain⟨w3,hw3⟩:∃w3,w3=(w2.alloc (.cells #[I (rKind op),I (rLeast op),I (rGreat op),I (rRef op),I (rLeastD op),I (rMostD op)] 118)).drewN nq:=⟨_,rfl⟩
 have HB13:Hid (Below w1.heap.size w1 w3):=by rw [hw3];exact za7 (HBX.out.alloc HBX.out.size _) nq
 have HRU3:Hid (Blk w3 w2.heap.size #[I (rKind op),I (rLeast op),I (rGreat op),I (rRef op),I (rLeastD op),I (rMostD op)] 118):=by rw [hw3];exact heap_alloc_new w2 _
 change Exit.then _ _ Exit.normal _ ((w2.alloc (.cells #[I (rKind op),I (rLeast op),I (rGreat op),I (rRef op),I (rLeastD op),I (rMostD op)] 118)).drewN nq);rw [←hw3];clear hw3;have HO3:Hid (ObAt w3 own' d (.iface tw pw) o2):=HO.out.keep (fun b hl _=>HB13.out.block b hl) (Ext.refl _ _)
 go_wp2_with (first
  | (refine zbm rfl _ _ _ _ _ rfl (.iface tw pw) o2 op x y own' d (by simp [Act.eval]) (by simp [Act.eval]) (by simp [Act.eval]) (by simp [Act.eval]) HO3.out HSM.out ?_;rw [HSY.out];intro a1 c1 w4 hA4 hq4 hB4;have HA4:Hid (At w4 a1 (flat zac sy.ds)):=hA4;have HQ4:Hid (∀p,a1=some p->w3.heap.size<=p.block):=hq4;have HB4:Hid (Below w3.heap.size w3 w4):=hB4;clear hB4 hA4 hq4;rw [HER.out];have HRU4:Hid (Blk w4 w2.heap.size #[I (rKind op),I (rLeast op),I (rGreat op),I (rRef op),I (rLeastD op),I (rMostD op)] 118):=HRU3.out.kept HB4.out HRU3.out.lt;have hlt4:w2.heap.size<w4.heap.size:=HRU4.out.lt;have r0:w4.cell? ⟨w2.heap.size,0,none⟩=some (I (rKind op)):=HRU4.out.cell 0;have r1:w4.cell? ⟨w2.heap.size,1,none⟩=some (I (rLeast op)):=HRU4.out.cell 1;have r2:w4.cell? ⟨w2.heap.size,2,none⟩=some (I (rGreat op)):=HRU4.out.cell 2;have r3:w4.cell? ⟨w2.heap.size,3,none⟩=some (I (rRef op)):=HRU4.out.cell 3;have r4:w4.cell? ⟨w2.heap.size,4,none⟩=some (I (rLeastD op)):=HRU4.out.cell 4;have r5:w4.cell? ⟨w2.heap.size,5,none⟩=some (I (rMostD op)):=HRU4.out.cell 5)
  | fail)
 have hB3:Below w.heap.size w w3:=HB.out.trans (HB13.out.mono HB.out.size);have hB4:Below w.heap.size w w4:=hB3.trans (HB4.out.mono hB3.size);have HB5:Hid (Below w.heap.size w (w4.alloc (.cells (efC ⟨syE op k sy,a1,c1⟩) 128))):=hB4.alloc hB4.size _;have HDT:Hid (At0 (w4.alloc (.cells (efC ⟨syE op k sy,a1,c1⟩) 128)) (newTo own w.heap.size 0) a1 (flat zac sy.ds)):=sy_at0 HA4.out (fun p e=>aQ hB3.size (HQ4.out p e)) _;clear hB3 hB4;refine(add_put (newTo own w.heap.size 0) c p R cg cc hp mv hv ev hs es ⟨syE op k sy,a1,c1⟩ (rKind op) (rLeast op) (rGreat op) (rRef op) (rLeastD op) (rMostD op) (w4.alloc (.cells (efC ⟨syE op k sy,a1,c1⟩) 128)) hc0 (HRW.out.keep (fun b hb _=>HB5.out.block b hb) (fun _ _ _ b hb _=>HB5.out.block b hb) (zab _ _ _)) (by have h:=HLS.out;show¬(sy.ds.length:Int)<rLeastD op;omega) (by have h:=HMS.out;show¬(sy.ds.length:Int)>rMostD op;omega) hn5 HDT.out).mono ?_;rintro e w6 ⟨rfl,hA⟩;have HA:Hid (AddOk w own c p {R with effs:=R.effs++ [syE op k sy]} cg cc hp mv hv hs (es++ [⟨syE op k sy,a1,c1⟩]) w6):=AddOk.from HB5.out hA;clear hA HB5;go_wp2;go_ret;exact⟨rfl,a1,c1,HA.out⟩
def putR(R:Rp)(op:Int)(k:Nat)(x y:Int)(o:Ob):Rp:={R with effs:=R.effs++ [syE op k ((seeTo (pendB R) k o R.effs.length).answer op x y)]}
theorem wdo_put(own:Clr)(s rg cc pp ch:Nat)(pv:Value)(prs:List Nat)(S:Sto)(r:Nat)(R:Rp)(op x y:Int)(k:Nat)(o:Ob)(w w0:World)(eb ef:Addr)(hen:Env w0 w own eb ef)(h:StIn w own s rg cc pp ch pv prs S)(hR:S.reps[r]?=some R)(hup:Rup R)(h1:R.st=1)(hop:1<=op∧op<=6)(hn5:R.effs.length<5)(hls:¬(((seeTo (pendB R) k o R.effs.length).answer op x y).ds.length:Int)<rLeastD op)(hms:¬(((seeTo (pendB R) k o R.effs.length).answer op x y).ds.length:Int)>rMostD op)(hkd:(k:Int) % 4=rKind op)(her:((seeTo (pendB R) k o R.effs.length).answer op x y).err=0)(hk:R.obs[k]?=some o):
  Calls prog 17 #[.pointer (some ⟨s,0,none⟩),I r,I op,I k,I x,I y] w fun e w'=>e= .returned (I 0)∧StOk w0 w own s {S with reps:=S.reps.set r (putR R op k x y o)} eb ef w':=by
 obtain⟨hr,cg,cc',hp,mv,hv,ev,hs,es,hrp⟩:=h.prl hR;have HU:Hid (Calls prog 37 #[.pointer (some ⟨s,0,none⟩),I r] w fun e w'=>e= .returned (.tuple #[.pointer (some ⟨prs[r],0,none⟩),I 0])∧w'=w):=zbn own s rg cc pp ch pv prs S r hr R hR hup.up w h;have hle:es.length<5:=by have:=hrp.effsE;rw [this,av] at hn5;exact hn5
 have HC:Hid (Calls prog 40 #[.pointer (some ⟨prs[r],0,none⟩),I op,I k,I x,I y] w fun e w'=>e= .returned (I 0)∧StOk w0 w own s {S with reps:=S.reps.set r (putR R op k x y o)} eb ef w'):=(do_put own (1+11*r) prs[r] R cg cc' hp mv hv ev hs es op x y k o w w0 eb ef hen hrp h1 hop (by omega) hle _ rfl hls hms hkd her hk hup.ok.obs8 hup.hl hup.n0 hup.n1 hup.hs0 hup.ok.time0 hup.ht1 (5*sumN R.clock) hup.hN (hup.ok.bd o (an hk)) hup.hv).mono (fun e w' hh=>by
  obtain⟨he,a1,c1,hA⟩:=hh
  exact⟨he,StOk.rep h hen r hr (ROk.add hA)⟩)
 clear h hrp hup hen hR her hk hls hms hkd hop h1 hle hn5;generalize prs[r]=p at *
 generalize putR R op k x y o=R' at *
 go_enter func17,ntmps17;go_wp2_with fail
 refine HU.out.mono ?_;rintro e w1 ⟨rfl,hw1⟩;subst hw1;go_wp2_with fail
 refine HC.out.mono ?_;rintro e w2 ⟨rfl,h2⟩;have HE:Hid (StOk w0 w1 own s {S with reps:=S.reps.set r R'} eb ef w2):=h2;clear h2;go_wp2;go_ret;exact⟨rfl,HE.out⟩
theorem zu6(own:Clr)(s rg cc pp ch:Nat)(pv:Value)(prs:List Nat)(S:Sto)(r:Nat)(R:Rp)(k:Nat)(o:Ob)(w:World)(h:StIn w own s rg cc pp ch pv prs S)(hR:S.reps[r]?=some R)(hup:Rup R)(hk:R.obs[k]?=some o):
  Calls prog 14 #[.pointer (some ⟨s,0,none⟩),I r,I k] w fun e w'=>zoj w (seeTo (pendB R) k o R.effs.length).tells e w':=by
 obtain⟨hr,cg,cc',hp,mv,hv,ev,hs,es,hrp⟩:=h.prl hR;have HU:Hid (Calls prog 37 #[.pointer (some ⟨s,0,none⟩),I r] w fun e w'=>e= .returned (.tuple #[.pointer (some ⟨prs[r],0,none⟩),I 0])∧w'=w):=zbn own s rg cc pp ch pv prs S r hr R hR hup.up w h;have HC:Hid (Calls prog 38 #[.pointer (some ⟨prs[r],0,none⟩),I k] w fun e w'=>zoj w (seeTo (pendB R) k o R.effs.length).tells e w'):=zy4 own (1+11*r) prs[r] R cg cc' hp mv hv ev hs es k o w hrp hk hup.ok.obs8 hup.hl hup.n0 hup.n1 hup.hs0 hup.ok.time0 hup.ht1 (5*sumN R.clock) hup.hN (hup.ok.bd o (an hk)) hup.hv;clear h hrp hup hR hk;generalize prs[r]=p at *
 generalize (seeTo (pendB R) k o R.effs.length).tells=l at *
 go_enter func14,ntmps14;go_wp2_with fail
 refine HU.out.mono ?_;rintro e w1 ⟨rfl,hw1⟩;subst hw1;go_wp2_with fail
 refine HC.out.mono ?_;rintro e w2 ⟨v,rfl,h2,hb2⟩;have HO:Hid (w2.ownsRow w1.heap.size 3 1 v l.length (l.map I)):=h2;have HB:Hid (Below w1.heap.size w1 w2):=hb2;clear h2 hb2;go_wp2;go_ret2;exact⟨v,rfl,HO.out,HB.out⟩
structure PutCan(R:Rp)(a:Ac)(o:Ob):Prop where
 up:Rup R
 st:R.st=1
 op:1<=a.op∧a.op<=6
 n5:R.effs.length<5
 ls:¬(((seeTo (pendB R) a.ob o R.effs.length).answer a.op a.x a.y).ds.length:Int)<rLeastD a.op
 ms:¬(((seeTo (pendB R) a.ob o R.effs.length).answer a.op a.x a.y).ds.length:Int)>rMostD a.op
 kd:(a.ob:Int) % 4=rKind a.op
 er:((seeTo (pendB R) a.ob o R.effs.length).answer a.op a.x a.y).err=0
 at_:R.obs[a.ob]?=some o
structure Rest(R:Rp):Prop where
 ok:Rok R
 n0:0<=R.n
 n1:R.n<R.clock.length
