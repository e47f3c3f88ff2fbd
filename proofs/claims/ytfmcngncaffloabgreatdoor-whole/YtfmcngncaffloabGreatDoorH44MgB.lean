import Derived.Test.YtfmcngncaffloabGreatDoorH43SoJ
import Derived.Test.YtfmcngncaffloabGreatDoorH38RvM
set_option maxHeartbeats 800000
namespace Go.Proofs.YtfmcngncaffloabGreatDoor
open Go.RowKit
set_option maxRecDepth 100000
theorem zxc (v : Value) (w : World) : (method 483 198 v "Values").run Tryz.prog w = .ok (247, v) w := by kernel_rfl
theorem zxd (v : Value) (w : World) : (method 483 203 v "Values").run Tryz.prog w = .ok (305, v) w := by kernel_rfl
def Ob.tells:Ob->List Int
 | .counter n=> [n]
 | .list ls=>(zah ls).map El.v
 | .set m=>compI (sortI (m.map (·.2)))
 | .reg m=>rvals m
theorem zh6{o:Oper}{a:Act}{w:World}{K:Act->World->Prop}{Q:Exit->Act->World->Prop}(x:Operand)(ats:Array TypeId)
    (hop : o.op = .call { callee := .invoke x "Values", args := #[], argTypes := ats }) (v : Value) (ob : Ob) (own : Clr) (c : Nat) (hx : a.eval x = v)
    (hob:ObAt w own c v ob) (hsm:ob.bound 100000)
    (hK:∀v' w',zed w ob.tells (.returned v') w'->K (a.put o.dst v') w'):Oper.wp Tryz.prog o a w K Q:=by
  have hex : ∀ t q f, v = .iface t q -> (∀ w', (method 483 t q "Values").run Tryz.prog w' = .ok (f, q) w') -> (callFunc f #[q]).run Tryz.prog w = .ok (.enter f #[q]) w -> (Calls Tryz.prog f #[q] w fun e w' => zed w ob.tells e w') -> Oper.wp Tryz.prog o a w K Q := by
    intro t q f hv hm hcf hcalls
    have hrun:(execOp a.eval o).run Tryz.prog w= .ok (.enter f #[q]) w:=by
      unfold execOp
      simp only [hop]
      simp only [resolve,invoke,Sem.run_bind,Sem.run_pure,Result.andThen_ok,List.map_toArray,List.map_nil,hx,hv]
      show (callMethod (.iface t q) "Values" #[]).run Tryz.prog w = _
      unfold callMethod
      simp [Made.depth,hm,hcf]
    unfold Oper.wp
    rw [hrun,Oper.upon_enter]
    refine hcalls.mono ?_
    intro e w' hT
    obtain⟨⟨v',he,h2⟩,h3⟩:=hT
    subst he
    exact hK v' w' ⟨⟨v',rfl,h2⟩,h3⟩
  cases ob with
  | counter n=>
    obtain⟨pp,hveq,hp,hb⟩:=hob
    exact hex _ _ _ hveq (fun w'=>zxf _ w') (by kernel_rfl) (zo8 pp n w hb)
  | set l=>
    obtain⟨pp,bb,hveq,hp,hp2,hb,hm⟩:=hob
    have hs':l.length<=100000:=hsm
    exact hex _ _ _ hveq (fun w'=>zxc _ w') (by kernel_rfl) (zne pp bb l w hb hm (by omega))
  | reg l=>
    obtain⟨pp,bb,hveq,hp,hp2,hb,hm⟩:=hob
    have hs':l.length<=100000:=hsm
    exact hex _ _ _ hveq (fun w'=>zxd _ w') (by kernel_rfl) (znl pp bb l w hb hm (by omega))
  | list ls=>
    obtain⟨pp,sv,hveq,hp,hg,hL⟩:=hob
    have hs':ls.length<=100000:=hsm
    obtain⟨a1,c1,rfl,hc,hpl2,hat⟩:=hL.form
    exact hex _ _ _ hveq (fun w'=>zxe _ w') (by kernel_rfl) (zn8 pp a1 c1 ls w hc hpl2 hat (by omega))
theorem zfh{ops:Array Oper}{rest:List Oper}{o:Oper}{a:Act}{w:World}{Q:Exit->Act->World->Prop}(hgd:o.guard=none)(x:Operand)(ats:Array TypeId)
    (hop : o.op = .call { callee := .invoke x "Values", args := #[], argTypes := ats }) (v : Value) (ob : Ob) (own : Clr) (c : Nat) (hx : a.eval x = v)
    (hob:ObAt w own c v ob) (hsm:ob.bound 100000)
    (hh:∀v' w',zed w ob.tells (.returned v') w'->wpList Tryz.prog ops Q rest (a.put o.dst v') w'):
    wpList Tryz.prog ops Q (o::rest) a w:=by
  refine wpList_plain hgd fun K hK=> ?_
  exact zh6 x ats hop v ob own c hx hob hsm (fun v' w' h=>hK _ _ (hh v' w' h))
theorem zwy(own:Clr)(c p:Nat)(R:Rp)(cg cc hp:Nat)(mv hv ev:Value)(hs:List Bm)(es:List Em)(k:Nat)(o:Ob)(w:World)(h:RpIn w own c p R cg cc hp mv hv ev hs es)(hk:R.obs[k]?=some o)(hobs:R.obs.length=8)
  (hl:R.clock.length<=1000) (hn0:0<=R.n) (hn1:R.n<R.clock.length) (hs0:∀z∈R.clock,0<=z∧z<=1000000) (ht0:0<=R.time) (ht1:R.time<=1000000000)
  (N:Nat) (hN:N+R.effs.length<=100000) (hbd:o.bound N) (hval:∀e∈R.effs, -1000<=e.va∧e.va<=1000∧e.dots.length<=1048576):
  Calls Tryz.prog 38 #[.pointer (some ⟨p,0,none⟩),I k] w fun e w'=>zm2 w (seeTo (pendB R) k o R.effs.length).tells e w':=by
 have HSM:Hid ((seeTo (pendB R) k o R.effs.length).bound 100000):=Ob.bound_mono (zcy (b:=pendB R) hbd hval R.effs.length (Nat.le_refl _)) hN
 have HC:Hid (Calls Tryz.prog 66 #[.pointer (some ⟨p,0,none⟩),I k] w fun e w'=>SeeOk own (seeTo (pendB R) k o R.effs.length) w e w'):=zd4 own c p R cg cc hp mv hv ev hs es k o w h hk hobs hl hn0 hn1 hs0 ht0 ht1 N hN hbd hval
 generalize seeTo (pendB R) k o R.effs.length=o2 at *
 go_enter Tryz.func38,Tryz.ntmps38
 go_wp2_with fail
 refine HC.out.mono ?_
 rintro e w1 ⟨v,d,own',rfl,hE,hO,hB⟩
 have HO:Hid (ObAt w1 own' d v o2):=hO
 have HB:Hid (Below w.heap.size w w1):=hB
 clear h hk hobs hl hn0 hn1 hs0 ht0 ht1 hN hbd hval hE hO hB HC
 obtain⟨tw,pw,hvf⟩:=ObAt.face HO.out
 subst hvf
 go_wp2_with (first
  | (refine zfh rfl _ _ rfl (.iface tw pw) o2 own' d (by simp [Act.eval]) HO.out HSM.out ?_;intro v2 w2 hC2;obtain⟨⟨v3,e3,hO3⟩,hB3⟩:=hC2;cases e3;have HO3:Hid (w2.ownsRow w1.heap.size 3 1 v2 o2.tells.length (o2.tells.map I)):=hO3;have HB3:Hid (Below w1.heap.size w1 w2):=hB3;clear hO3 hB3)
  | fail)
 exact bodyPost_ret (v:= .tuple #[v2,I 0]) (by simp [results,Tryz.results38,go_sem]) rfl ⟨v2,rfl,zmi HO3.out HB.out.size,HB.out.trans (HB3.out.mono HB.out.size)⟩
instance:DecidableEq Wv.Dt:=fun a b=>decidable_of_iff (eqD a b=true) (zeb a b)
structure LvO(r s i:Int)(m:Lv):Prop where
 old:∀x∈m,Old r s i x.1
 nd:(m.map (·.1)).Nodup
theorem zrq{d e:Wv.Dt}(h:e ≠ d):eqD d e=false:=by rw [←Bool.not_eq_true,zeb];exact fun q=>h q.symm
theorem zh2:∀{m:Lv} (d:Wv.Dt),(m.map (·.1)).Nodup->delD m d=m.filter (fun x=> !eqD d x.1)
 | [],d,_=>rfl
 | x::m,d,h=>by
  rw [List.map_cons,List.nodup_cons] at h
  obtain⟨h1,h2⟩:=h
  have ih:=zh2 (m:=m) d h2
  unfold delD idxD at ih ⊢
  rw [List.findIdx?_cons]
  cases hq:eqD d x.1 with
  | true=>
   rw [List.filter_cons]
   simp only [hq]
   have:∀y∈m,(!eqD d y.1)=true:=fun y hy=>by
    rw [Bool.not_eq_true',zrq]
    rintro rfl
    rw [zeb] at hq
    exact h1 (List.mem_map.2 ⟨y,hy,hq⟩)
   rw [List.filter_eq_self.2 this]
   rfl
  | false=>
   rw [List.filter_cons]
   simp only [hq]
   cases hz:List.findIdx? (fun x=>eqD d x.1) m with
   | none=>rw [hz] at ih;simpa using ih
   | some j=>rw [hz] at ih;simpa using ih
theorem zgm{m:Lv}(p:Wv.Dt×Int->Bool)(h:(m.map (·.1)).Nodup):((m.filter p).map (·.1)).Nodup:=h.sublist (List.filter_sublist.map _)
theorem zgw:∀(ds:List Wv.Dt) {m:Lv},(m.map (·.1)).Nodup->delsD m ds=m.filter (fun x=>decide (x.1∉ds))
 | [],m,_=>by
  show m=_
  rw [List.filter_eq_self.2]
  simp
 | d::ds,m,h=>by
  have e:delsD m (d::ds)=delsD (delD m d) ds:=rfl
  rw [e,zh2 d h,zgw ds (zgm _ h),List.filter_filter]
  refine List.filter_congr fun x _=> ?_
  have:(!eqD d x.1)=decide (x.1 ≠ d):=by
   by_cases hq:x.1=d
   ·subst hq;simp [(zeb _ _).2 rfl]
   ·rw [zrq hq];simp [hq]
  rw [this]
  by_cases h1:x.1=d<;>by_cases h2:x.1∈ds<;>simp [h1,h2]
theorem zjs:∀{m:Lv} {d:Wv.Dt} {v:Int},(m.map (·.1)).Nodup->(d,v)∈m->getD m d=v
 | x::m,d,v,h,hm=>by
  rw [List.map_cons,List.nodup_cons] at h
  unfold getD idxD
  rw [List.findIdx?_cons]
  rcases List.mem_cons.1 hm with rfl | hm
  ·simp [(zeb d d).2 rfl]
  ·have hne:eqD d x.1=false:=zrq (by rintro rfl;exact h.1 (List.mem_map.2 ⟨_,hm,rfl⟩))
   rw [hne]
   have ih:=zjs h.2 hm
   unfold getD idxD at ih
   cases hz:List.findIdx? (fun x=>eqD d x.1) m with
   | none=>rw [hz] at ih;simpa using ih
   | some j=>rw [hz] at ih;simpa using ih
theorem zzs{m:Lv}{d:Wv.Dt}(h:d∈m.map (·.1)):∃v,(d,v)∈m:=by
 obtain⟨⟨a,v⟩,hx,rfl⟩:=List.mem_map.1 h
 exact⟨v,hx⟩
theorem zwv{m:Lv}(h:(m.map (·.1)).Nodup)(x:Int)(d:Wv.Dt):d∈remD m x↔(d,x)∈m:=by
 unfold remD keepD
 rw [List.mem_filter,(zb7 _).mem_iff]
 constructor
 ·rintro⟨h1,h2⟩
  obtain⟨v,hv⟩:=zzs h1
  have h2:(!(getD m d !=x))=true:=h2
  rw [zjs h hv] at h2
  have:v=x:=by simpa using h2
  rw [←this];exact hv
 ·intro hm
  refine⟨List.mem_map.2 ⟨_,hm,rfl⟩, ?_⟩
  show(!(getD m d !=x))=true
  rw [zjs h hm]
  simp
def Rise(ds:List Wv.Dt):Prop:=ds.Pairwise (fun a b=>Wv.lessD a b=true)
theorem zxn{a b:Wv.Dt}(h:Wv.lessD b a=false)(hne:a ≠ b):Wv.lessD a b=true:=by
 rw [zb1] at h
 rw [ze8]
 have:¬(a.o=b.o∧a.s=b.s∧a.i=b.i):=fun⟨h1,h2,h3⟩=>hne (by cases a;cases b;simp_all)
 omega
theorem zix{l:List Wv.Dt}(h:l.Nodup):Rise (sortD l):=by
 have hs:=zcw l
 have hn:(sortD l).Nodup:=(zb7 l).nodup_iff.2 h
 unfold Rise
 refine(hs.and hn).imp (fun⟨h1,h2⟩=> ?_)
 exact zxn (by simpa using h1) h2
theorem zt4{m:Lv}(h:(m.map (·.1)).Nodup)(x:Int):Rise (remD m x):=(zix h).sublist List.filter_sublist
def SetRel(m:Lv)(f:List Bool):Prop:=∀x:Int,(∃d,(d,x)∈m)↔0<=x∧f.getD x.toNat false=true
section
variable {ks : List Mk} {mk en : Int} {m : Lv} {x : Mk}
end
theorem zxg (v : Value) (w : World) : (method 483 198 v "Effect").run Tryz.prog w = .ok (245, v) w := by kernel_rfl
theorem zxh (v : Value) (w : World) : (method 483 203 v "Effect").run Tryz.prog w = .ok (303, v) w := by kernel_rfl
structure Sya where
 va:Int
 ref:Wv.Dt
 ds:List Wv.Dt
 err:Int
def Ob.answer:Ob->Int->Int->Int->Sya
 | .counter _,_,x,_=>⟨(addE x).1,⟨0,0,0⟩, [],(addE x).2⟩
 | .list ls,op,x,y=>⟨(listE ls op x y).1,(listE ls op x y).2.1, [],(listE ls op x y).2.2⟩
 | .set m,op,x,_=>⟨(setE m op x).1,⟨0,0,0⟩,(setE m op x).2.1,(setE m op x).2.2⟩
 | .reg m,_,x,_=>⟨(regE m x).1,⟨0,0,0⟩,(regE m x).2.1,(regE m x).2.2⟩
abbrev syV (s:Sya) (a:Option Addr) (c:Nat):Value:= .agg #[I 0,I 0,I s.va,I s.ref.o,I s.ref.s,I s.ref.i, .slice a s.ds.length c]
def SyaOk(w:World)(s:Sya)(e:Ending)(w':World):Prop:=∃a c,e= .returned (.tuple #[syV s a c,I s.err])∧At w' a (flat zac s.ds)∧(∀p,a=some p->w.heap.size<=p.block)∧Below w.heap.size w w'
theorem zg1{o:Oper}{a:Act}{w:World}{K:Act->World->Prop}{Q:Exit->Act->World->Prop}(x y1 y2 y3:Operand)(ats:Array TypeId)
    (hop : o.op = .call { callee := .invoke x "Effect", args := #[y1, y2, y3], argTypes := ats }) (v : Value) (ob : Ob) (op s t : Int) (own : Clr) (c : Nat) (hx : a.eval x = v) (h1 : a.eval y1 = I op) (h2 : a.eval y2 = I s) (h3 : a.eval y3 = I t)
    (hob:ObAt w own c v ob) (hsm:ob.bound 100000)
    (hK:∀a1 c1 w',At w' a1 (flat zac (ob.answer op s t).ds)->(∀p,a1=some p->w.heap.size<=p.block)->Below w.heap.size w w'->K (a.put o.dst (.tuple #[syV (ob.answer op s t) a1 c1,I (ob.answer op s t).err])) w'):Oper.wp Tryz.prog o a w K Q:=by
  have hex : ∀ t1 q f, v = .iface t1 q -> (∀ w', (method 483 t1 q "Effect").run Tryz.prog w' = .ok (f, q) w') -> (callFunc f #[q, I op, I s, I t]).run Tryz.prog w = .ok (.enter f #[q, I op, I s, I t]) w -> (Calls Tryz.prog f #[q, I op, I s, I t] w fun e w' => SyaOk w (ob.answer op s t) e w') -> Oper.wp Tryz.prog o a w K Q := by
    intro t1 q f hv hm hcf hcalls
    have hrun:(execOp a.eval o).run Tryz.prog w= .ok (.enter f #[q,I op,I s,I t]) w:=by
      unfold execOp
      simp only [hop]
      simp only [resolve,invoke,Sem.run_bind,Sem.run_pure,Result.andThen_ok,List.map_toArray,List.map_cons,List.map_nil,hx,h1,h2,h3,hv]
      show (callMethod (.iface t1 q) "Effect" #[I op, I s, I t]).run Tryz.prog w = _
      unfold callMethod
      simp [Made.depth,hm,hcf]
    unfold Oper.wp
    rw [hrun,Oper.upon_enter]
    refine hcalls.mono ?_
    rintro e w' ⟨a1,c1,rfl,hA,hq,hB⟩
    exact hK a1 c1 w' hA hq hB
  cases ob with
  | counter n=>
    obtain⟨pp,hveq,hp,hb⟩:=hob
    exact hex _ _ _ hveq (fun w'=>zxj _ w') (by kernel_rfl) ((zpl pp op s t w).mono (fun e w' h=>⟨none,0,h.1,zd8 _,(fun p hp=>by cases hp),h.2⟩))
  | set l=>
    obtain⟨pp,bb,hveq,hp,hp2,hb,hm⟩:=hob
    have hs':l.length<=100000:=hsm
    exact hex _ _ _ hveq (fun w'=>zxg _ w') (by kernel_rfl) (znk pp bb l op s t w hb hm (by omega))
  | reg l=>
    obtain⟨pp,bb,hveq,hp,hp2,hb,hm⟩:=hob
    have hs':l.length<=100000:=hsm
    exact hex _ _ _ hveq (fun w'=>zxh _ w') (by kernel_rfl) (znr pp bb l op s t w hb hm (by omega))
  | list ls=>
    obtain⟨pp,sv,hveq,hp,hg,hL⟩:=hob
    have hs':ls.length<=100000:=hsm
    obtain⟨a1,c1,rfl,hc,hpl2,hat⟩:=hL.form
    exact hex _ _ _ hveq (fun w'=>zxi _ w') (by kernel_rfl) ((zoa pp a1 c1 ls op s t w hc hpl2 hat (by omega)).mono (fun e w' h=>⟨none,0,h.1,zd8 _,(fun p hp=>by cases hp),h.2⟩))
theorem zbf{ops:Array Oper}{rest:List Oper}{o:Oper}{a:Act}{w:World}{Q:Exit->Act->World->Prop}(hgd:o.guard=none)(x y1 y2 y3:Operand)(ats:Array TypeId)
    (hop : o.op = .call { callee := .invoke x "Effect", args := #[y1, y2, y3], argTypes := ats }) (v : Value) (ob : Ob) (op s t : Int) (own : Clr) (c : Nat) (hx : a.eval x = v) (h1 : a.eval y1 = I op) (h2 : a.eval y2 = I s) (h3 : a.eval y3 = I t)
    (hob:ObAt w own c v ob) (hsm:ob.bound 100000)
    (hh:∀a1 c1 w',At w' a1 (flat zac (ob.answer op s t).ds)->(∀p,a1=some p->w.heap.size<=p.block)->Below w.heap.size w w'->wpList Tryz.prog ops Q rest (a.put o.dst (.tuple #[syV (ob.answer op s t) a1 c1,I (ob.answer op s t).err])) w'):
    wpList Tryz.prog ops Q (o::rest) a w:=by
  refine wpList_plain hgd fun K hK=> ?_
  exact zg1 x y1 y2 y3 ats hop v ob op s t own c hx h1 h2 h3 hob hsm (fun a1 c1 w' h1 h2 h3=>hK _ _ (hh a1 c1 w' h1 h2 h3))
def Ob.kind:Ob->Nat
 | .counter _=>0
 | .set _=>1
 | .reg _=>2
 | .list _=>3
theorem Ob.take_kind(o:Ob)(s:Stp)(e:Wv.Ef):(o.take s e).kind=o.kind:=by cases o<;>rfl
theorem sy_at0{w:World}{own:Clr}{n:Nat}{a:Option Addr}{cs:List Value}(h:At w a cs)(hq:∀p,a=some p->n<=p.block)(o:Obj):At0 (w.alloc o) (newTo own n 0) a cs:=by
 intro j u hj
 obtain⟨b,q,e,hc⟩:=h j u hj
 exact⟨b,q,e,zaf _ _ _ _ (hq _ e),zaa ((Below.refl _ w).alloc (Nat.le_refl _) o) hc⟩
def syE(op k:Int)(s:Sya):Wv.Ef:=⟨op,k,s.va,s.ref,s.ds⟩
theorem do_put(own:Clr)(c p:Nat)(R:Rp)(cg cc hp:Nat)(mv hv ev:Value)(hs:List Bm)(es:List Em)(op x y:Int)(k:Nat)(o:Ob)(w w0:World)(eb ef:Addr)(hen:Env w0 w own eb ef)(h:RpIn w own c p R cg cc hp mv hv ev hs es)(h1:R.st=1)(hop:1<=op∧op<=6)(hc0:0<c)(hn5:es.length<5)(sy:Sya)(hsy:(seeTo (pendB R) k o R.effs.length).answer op x y=sy)(hls:¬(sy.ds.length:Int)<Wv.rLeastD op)(hms:¬(sy.ds.length:Int)>Wv.rMostD op)(hkd:(k:Int) % 4=Wv.rKind op)(her:sy.err=0)
  (hk:R.obs[k]?=some o) (hobs:R.obs.length=8)
  (hl:R.clock.length<=1000) (hn0:0<=R.n) (hn1:R.n<R.clock.length) (hs0:∀z∈R.clock,0<=z∧z<=1000000) (ht0:0<=R.time) (ht1:R.time<=1000000000)
  (N:Nat) (hN:N+R.effs.length<=100000) (hbd:o.bound N) (hval:∀e∈R.effs, -1000<=e.va∧e.va<=1000∧e.dots.length<=1048576):
  Calls Tryz.prog 40 #[.pointer (some ⟨p,0,none⟩),I op,I k,I x,I y] w fun e w'=>e= .returned (I 0)∧∃a1 c1,AddOk w own c p {R with effs:=R.effs++ [syE op k sy]} cg cc hp mv hv hs (es++ [⟨syE op k sy,a1,c1⟩]) w':=by
 have HLS:Hid (¬(sy.ds.length:Int)<Wv.rLeastD op):=hls
 have HMS:Hid (¬(sy.ds.length:Int)>Wv.rMostD op):=hms
 clear hls hms
 have HRW:Hid (RpIn w own c p R cg cc hp mv hv ev hs es):=h
 have c1:w.cell? ⟨p,1,none⟩=some (I R.st):=h.blk.cell 1
 have hb:(R.st==1)=true:=by simp [h1]
 have HC:Hid (Calls Tryz.prog 66 #[.pointer (some ⟨p,0,none⟩),I k] w fun e w'=>SeeOk own (seeTo (pendB R) k o R.effs.length) w e w'):=zd4 own c p R cg cc hp mv hv ev hs es k o w h hk hobs hl hn0 hn1 hs0 ht0 ht1 N hN hbd hval
 have HEN:Hid (Env w0 w own eb ef):=hen
 have HOP:Hid (1<=op∧op<=6):=hop
 have hA1:(0:Int)<=k:=by omega
 have hA2:(k:Int)<=7:=by
  obtain⟨h,_⟩:=List.getElem?_eq_some_iff.1 hk
  omega
 have hB:(Wv.rKind op !=(k:Int) % 4)=false:=by simpa using hkd.symm
 have HSM:Hid ((seeTo (pendB R) k o R.effs.length).bound 100000):=Ob.bound_mono (zcy (b:=pendB R) hbd hval R.effs.length (Nat.le_refl _)) hN
 have HSY:Hid ((seeTo (pendB R) k o R.effs.length).answer op x y=sy):=hsy
 have HER:Hid (sy.err=0):=her
 clear h h1 hen hk hobs hl hn0 hn1 hs0 ht0 ht1 hN hbd hval hop hkd her hsy
 generalize seeTo (pendB R) k o R.effs.length=o2 at *
 go_enter Tryz.func40,Tryz.ntmps40
 go_wp2_with fail
 refine HC.out.mono ?_
 rintro e w1 ⟨v,d,own',rfl,hE,hO,hB⟩
 have HB:Hid (Below w.heap.size w w1):=hB
 obtain⟨tw,pw,hvf⟩:=ObAt.face hO
 subst hvf
 have HO:Hid (ObAt w1 own' d (.iface tw pw) o2):=hO
 clear hE hO hB HC
 go_wp2_with fail
 refine(zbb op w1 eb ef (HEN.out.below HB.out) HOP.out).mono ?_
 rintro e w2 ⟨rfl,hB2⟩
 unfold ruleV
 have HBX:Hid (Below w1.heap.size w1 w2):=hB2
 have HB2:Hid (Below w.heap.size w w2):=HB.out.trans (hB2.mono HB.out.size)
 clear hB2
 go_wp2_with fail
 go_quiet (first | (go_at_call 68;exact Calls.quiet_of_same (zbs _ hA1 hA2 _)))
 obtain⟨w3,hw3⟩:∃w3,w3=(w2.alloc (.cells #[I (Wv.rKind op),I (Wv.rLeast op),I (Wv.rGreat op),I (Wv.rRef op),I (Wv.rLeastD op),I (Wv.rMostD op)] 118)).drewN nq:=⟨_,rfl⟩
 have HB13:Hid (Below w1.heap.size w1 w3):=by rw [hw3];exact za5 (HBX.out.alloc HBX.out.size _) nq
 have HRU3:Hid (Blk w3 w2.heap.size #[I (Wv.rKind op),I (Wv.rLeast op),I (Wv.rGreat op),I (Wv.rRef op),I (Wv.rLeastD op),I (Wv.rMostD op)] 118):=by rw [hw3];exact heap_alloc_new w2 _
 change Exit.then _ _ Exit.normal _ ((w2.alloc (.cells #[I (Wv.rKind op),I (Wv.rLeast op),I (Wv.rGreat op),I (Wv.rRef op),I (Wv.rLeastD op),I (Wv.rMostD op)] 118)).drewN nq)
 rw [←hw3]
 clear hw3
 have HO3:Hid (ObAt w3 own' d (.iface tw pw) o2):=HO.out.keep (fun b hl _=>HB13.out.block b hl) (Ext.refl _ _)
 go_wp2_with (first
  | (refine zbf rfl _ _ _ _ _ rfl (.iface tw pw) o2 op x y own' d (by simp [Act.eval]) (by simp [Act.eval]) (by simp [Act.eval]) (by simp [Act.eval]) HO3.out HSM.out ?_;rw [HSY.out];intro a1 c1 w4 hA4 hq4 hB4;have HA4:Hid (At w4 a1 (flat zac sy.ds)):=hA4;have HQ4:Hid (∀p,a1=some p->w3.heap.size<=p.block):=hq4;have HB4:Hid (Below w3.heap.size w3 w4):=hB4;clear hB4 hA4 hq4;rw [HER.out];have HRU4:Hid (Blk w4 w2.heap.size #[I (Wv.rKind op),I (Wv.rLeast op),I (Wv.rGreat op),I (Wv.rRef op),I (Wv.rLeastD op),I (Wv.rMostD op)] 118):=HRU3.out.kept HB4.out HRU3.out.lt;have hlt4:w2.heap.size<w4.heap.size:=HRU4.out.lt;have r0:w4.cell? ⟨w2.heap.size,0,none⟩=some (I (Wv.rKind op)):=HRU4.out.cell 0;have r1:w4.cell? ⟨w2.heap.size,1,none⟩=some (I (Wv.rLeast op)):=HRU4.out.cell 1;have r2:w4.cell? ⟨w2.heap.size,2,none⟩=some (I (Wv.rGreat op)):=HRU4.out.cell 2;have r3:w4.cell? ⟨w2.heap.size,3,none⟩=some (I (Wv.rRef op)):=HRU4.out.cell 3;have r4:w4.cell? ⟨w2.heap.size,4,none⟩=some (I (Wv.rLeastD op)):=HRU4.out.cell 4;have r5:w4.cell? ⟨w2.heap.size,5,none⟩=some (I (Wv.rMostD op)):=HRU4.out.cell 5)
  | fail)
 have hB3:Below w.heap.size w w3:=HB.out.trans (HB13.out.mono HB.out.size)
 have hB4:Below w.heap.size w w4:=hB3.trans (HB4.out.mono hB3.size)
 have HB5:Hid (Below w.heap.size w (w4.alloc (.cells (efC ⟨syE op k sy,a1,c1⟩) 128))):=hB4.alloc hB4.size _
 have HDT:Hid (At0 (w4.alloc (.cells (efC ⟨syE op k sy,a1,c1⟩) 128)) (newTo own w.heap.size 0) a1 (flat zac sy.ds)):=sy_at0 HA4.out (fun p e=>Nat.le_trans hB3.size (HQ4.out p e)) _
 clear hB3 hB4
 refine(add_put (newTo own w.heap.size 0) c p R cg cc hp mv hv ev hs es ⟨syE op k sy,a1,c1⟩ (Wv.rKind op) (Wv.rLeast op) (Wv.rGreat op) (Wv.rRef op) (Wv.rLeastD op) (Wv.rMostD op) (w4.alloc (.cells (efC ⟨syE op k sy,a1,c1⟩) 128)) hc0 (HRW.out.keep (fun b hb _=>HB5.out.block b hb) (fun _ _ _ b hb _=>HB5.out.block b hb) (zab _ _ _)) (by have h:=HLS.out;show¬(sy.ds.length:Int)<Wv.rLeastD op;omega) (by have h:=HMS.out;show¬(sy.ds.length:Int)>Wv.rMostD op;omega) hn5 HDT.out).mono ?_
 rintro e w6 ⟨rfl,hA⟩
 have HA:Hid (AddOk w own c p {R with effs:=R.effs++ [syE op k sy]} cg cc hp mv hv hs (es++ [⟨syE op k sy,a1,c1⟩]) w6):=AddOk.from HB5.out hA
 clear hA HB5
 go_wp2
 go_ret
 exact⟨rfl,a1,c1,HA.out⟩
def putR(R:Rp)(op:Int)(k:Nat)(x y:Int)(o:Ob):Rp:={R with effs:=R.effs++ [syE op k ((seeTo (pendB R) k o R.effs.length).answer op x y)]}
theorem zy7(own:Clr)(s rg cc pp ch:Nat)(pv:Value)(prs:List Nat)(S:Sto)(r:Nat)(R:Rp)(op x y:Int)(k:Nat)(o:Ob)(w w0:World)(eb ef:Addr)(hen:Env w0 w own eb ef)(h:StIn w own s rg cc pp ch pv prs S)(hR:S.reps[r]?=some R)(hup:Rup R)(h1:R.st=1)(hop:1<=op∧op<=6)(hn5:R.effs.length<5)(hls:¬(((seeTo (pendB R) k o R.effs.length).answer op x y).ds.length:Int)<Wv.rLeastD op)(hms:¬(((seeTo (pendB R) k o R.effs.length).answer op x y).ds.length:Int)>Wv.rMostD op)(hkd:(k:Int) % 4=Wv.rKind op)(her:((seeTo (pendB R) k o R.effs.length).answer op x y).err=0)(hk:R.obs[k]?=some o):
  Calls Tryz.prog 17 #[.pointer (some ⟨s,0,none⟩),I r,I op,I k,I x,I y] w fun e w'=>e= .returned (I 0)∧StOk w0 w own s {S with reps:=S.reps.set r (putR R op k x y o)} eb ef w':=by
 obtain⟨hr,cg,cc',hp,mv,hv,ev,hs,es,hrp⟩:=h.prl hR
 have HU:Hid (Calls Tryz.prog 37 #[.pointer (some ⟨s,0,none⟩),I r] w fun e w'=>e= .returned (.tuple #[.pointer (some ⟨prs[r],0,none⟩),I 0])∧w'=w):=zbg own s rg cc pp ch pv prs S r hr R hR hup.up w h
 have hle:es.length<5:=by have:=hrp.effsE;rw [this,List.length_map] at hn5;exact hn5
 have HC:Hid (Calls Tryz.prog 40 #[.pointer (some ⟨prs[r],0,none⟩),I op,I k,I x,I y] w fun e w'=>e= .returned (I 0)∧StOk w0 w own s {S with reps:=S.reps.set r (putR R op k x y o)} eb ef w'):=(do_put own (1+11*r) prs[r] R cg cc' hp mv hv ev hs es op x y k o w w0 eb ef hen hrp h1 hop (by omega) hle _ rfl hls hms hkd her hk hup.ok.obs8 hup.hl hup.n0 hup.n1 hup.hs0 hup.ok.time0 hup.ht1 (5*sumN R.clock) hup.hN (hup.ok.bd o (List.mem_of_getElem? hk)) hup.hv).mono (fun e w' hh=>by
  obtain⟨he,a1,c1,hA⟩:=hh
  exact⟨he,StOk.rep h hen r hr (ROk.add hA)⟩)
 clear h hrp hup hen hR her hk hls hms hkd hop h1 hle hn5
 generalize prs[r]=p at *
 generalize putR R op k x y o=R' at *
 go_enter Tryz.func17,Tryz.ntmps17
 go_wp2_with fail
 refine HU.out.mono ?_
 rintro e w1 ⟨rfl,hw1⟩
 subst hw1
 go_wp2_with fail
 refine HC.out.mono ?_
 rintro e w2 ⟨rfl,h2⟩
 have HE:Hid (StOk w0 w1 own s {S with reps:=S.reps.set r R'} eb ef w2):=h2
 clear h2
 go_wp2
 go_ret
 exact⟨rfl,HE.out⟩
theorem ztc(own:Clr)(s rg cc pp ch:Nat)(pv:Value)(prs:List Nat)(S:Sto)(r:Nat)(R:Rp)(k:Nat)(o:Ob)(w:World)(h:StIn w own s rg cc pp ch pv prs S)(hR:S.reps[r]?=some R)(hup:Rup R)(hk:R.obs[k]?=some o):
  Calls Tryz.prog 14 #[.pointer (some ⟨s,0,none⟩),I r,I k] w fun e w'=>zm2 w (seeTo (pendB R) k o R.effs.length).tells e w':=by
 obtain⟨hr,cg,cc',hp,mv,hv,ev,hs,es,hrp⟩:=h.prl hR
 have HU:Hid (Calls Tryz.prog 37 #[.pointer (some ⟨s,0,none⟩),I r] w fun e w'=>e= .returned (.tuple #[.pointer (some ⟨prs[r],0,none⟩),I 0])∧w'=w):=zbg own s rg cc pp ch pv prs S r hr R hR hup.up w h
 have HC:Hid (Calls Tryz.prog 38 #[.pointer (some ⟨prs[r],0,none⟩),I k] w fun e w'=>zm2 w (seeTo (pendB R) k o R.effs.length).tells e w'):=zwy own (1+11*r) prs[r] R cg cc' hp mv hv ev hs es k o w hrp hk hup.ok.obs8 hup.hl hup.n0 hup.n1 hup.hs0 hup.ok.time0 hup.ht1 (5*sumN R.clock) hup.hN (hup.ok.bd o (List.mem_of_getElem? hk)) hup.hv
 clear h hrp hup hR hk
 generalize prs[r]=p at *
 generalize (seeTo (pendB R) k o R.effs.length).tells=l at *
 go_enter Tryz.func14,Tryz.ntmps14
 go_wp2_with fail
 refine HU.out.mono ?_
 rintro e w1 ⟨rfl,hw1⟩
 subst hw1
 go_wp2_with fail
 refine HC.out.mono ?_
 rintro e w2 ⟨v,rfl,h2,hb2⟩
 have HO:Hid (w2.ownsRow w1.heap.size 3 1 v l.length (l.map I)):=h2
 have HB:Hid (Below w1.heap.size w1 w2):=hb2
 clear h2 hb2
 go_wp2
 go_ret2
 exact⟨v,rfl,HO.out,HB.out⟩
structure PutCan(R:Rp)(a:Ac)(o:Ob):Prop where
 up:Rup R
 st:R.st=1
 op:1<=a.op∧a.op<=6
 n5:R.effs.length<5
 ls:¬(((seeTo (pendB R) a.ob o R.effs.length).answer a.op a.x a.y).ds.length:Int)<Wv.rLeastD a.op
 ms:¬(((seeTo (pendB R) a.ob o R.effs.length).answer a.op a.x a.y).ds.length:Int)>Wv.rMostD a.op
 kd:(a.ob:Int) % 4=Wv.rKind a.op
 er:((seeTo (pendB R) a.ob o R.effs.length).answer a.op a.x a.y).err=0
 at_:R.obs[a.ob]?=some o
structure Rest(R:Rp):Prop where
 ok:Rok R
 n0:0<=R.n
 n1:R.n<R.clock.length
end Go.Proofs.YtfmcngncaffloabGreatDoor
