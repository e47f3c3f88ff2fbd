import Derived.Test.YtfmcngncaffloabGreatDoorJ10ObjU
import Derived.Laws.Externs
import Derived.Laws.Cover3
set_option maxHeartbeats 3200000
namespace Go.Proofs.YtfmcngncaffloabGreatDoor
open Go.RowKit Go.Proofs.Tryz Wv
set_option maxRecDepth 100000
theorem zzv(p base:Nat)(x:El)(d:Dt)(w:World)(hB:base<=w.heap.size)(h:LsOwn w p base (.slice none 0 0) []):
  Calls prog 313 #[.pointer (some ⟨p,0,none⟩),elV x,dotV d] w fun e w'=>PutOk w p base (.slice none 0 0) (putL [] x d) e w':=by
 have HL:Hid (LsOwn w p base (.slice none 0 0) []):=h;have HX:Hid (Blk (xdC w x d) w.heap.size #[I x.s.d.o,I x.s.d.s,I x.s.d.i,I x.s.t,I x.v, .bool x.x] 365):=Blk.alloc (heap_alloc_new w _) _;have HA:Hid (At (xdC w x d) none (flat El.cells [])):=fun j u hj=>by simp [flat] at hj
 have hcA:(xdC w x d).cell? ⟨p,0,none⟩=some (.slice none ([]:List El).length 0):=(HL.out.kept (zeg w x d)).blk.cell 0;have HPW:Hid (p<w.heap.size):=h.blk.lt;clear h;go_enter func313,ntmps313;go_wp2_with fail
 refine(zle p d none 0 [] (xdC w x d) hcA HA.out (by simp)).mono ?_;rintro e w1 ⟨rfl,hb1⟩;have HB1:Hid (Below w.heap.size w w1):=(zeg w x d).trans (hb1.mono (by simp;omega));have HX1:Hid (Blk w1 w.heap.size #[I x.s.d.o,I x.s.d.s,I x.s.d.i,I x.s.t,I x.v, .bool x.x] 365):=HX.out.kept hb1 HX.out.lt;clear hb1 HX HA hcA;rw [show 1+zax (dotIs d) []=0 from rfl];go_wp2_with fail
 go_loopw [6] (fun v wr=>v=I 0∧Hid (Below w.heap.size w wr)∧Hid (Blk wr w.heap.size #[I x.s.d.o,I x.s.d.s,I x.s.d.i,I x.s.t,I x.v, .bool x.x] 365)) (fun v _=>0)
 case atStart=>exact⟨rfl,HB1,HX1⟩
 case round=>
  obtain⟨rfl,HB,HX⟩:=hrel;clear HB1 HX1;have c0:wr.cell? ⟨p,0,none⟩=some (.slice none 0 0):=zaa HB.out (HL.out.blk.cell 0);go_wp2_with fail
  go_quiet (fail)
  have HBA:Hid (Below w.heap.size w (wr.drewN nq)):=za7 HB.out nq;have HXA:Hid (Blk (wr.drewN nq) w.heap.size #[I x.s.d.o,I x.s.d.s,I x.s.d.i,I x.s.t,I x.v, .bool x.x] 365):=HX.out;clear HB HX c0;generalize wr.drewN nq=wA at *
  have HLA:Hid (LsOwn wA p base (.slice none 0 0) []):=HL.out.kept HBA.out;have cA:wA.cell? ⟨p,0,none⟩=some (.slice none 0 0):=HLA.out.blk.cell 0;have y0:wA.cell? ⟨w.heap.size,0,none⟩=some (I x.s.d.o):=HXA.out.cell 0;have y1:wA.cell? ⟨w.heap.size,1,none⟩=some (I x.s.d.s):=HXA.out.cell 1;have y2:wA.cell? ⟨w.heap.size,2,none⟩=some (I x.s.d.i):=HXA.out.cell 2;have y3:wA.cell? ⟨w.heap.size,3,none⟩=some (I x.s.t):=HXA.out.cell 3;have y4:wA.cell? ⟨w.heap.size,4,none⟩=some (I x.v):=HXA.out.cell 4;have y5:wA.cell? ⟨w.heap.size,5,none⟩=some (.bool x.x):=HXA.out.cell 5;go_wp2_with fail
  obtain⟨W3,hW3⟩:∃W3,W3=wA.drew.alloc (.cells #[I x.s.d.o,I x.s.d.s,I x.s.d.i,I x.s.t,I x.v, .bool x.x] 365):=⟨_,rfl⟩
  have hx3:Blk W3 wA.heap.size #[I x.s.d.o,I x.s.d.s,I x.s.d.i,I x.s.t,I x.v, .bool x.x] 365:=by rw [hW3];exact heap_alloc_new wA.drew _
  have hT3:Tch (fun _=>False) wA W3:=by rw [hW3];exact(Tch.refl _ wA).drew.alloc _
  have HIN:Hid (Calls prog 317 #[.slice none 0 0,I 0, .slice (some ⟨wA.heap.size,0,none⟩) 1 1] W3 fun r w'=>InsOk W3 base (.slice none 0 0) [x] r w'):=zsr base wA.heap.size x W3 (by have:=hT3.size;have:=HBA.out.size;omega) hx3;have HT3:Hid (Tch (fun _=>False) wA W3):=hT3;have HBL:Hid (Blk wA p #[.slice none 0 0] 208):=HLA.out.blk;clear hx3 hT3;rw [hW3] at HIN HT3;clear hW3 W3;have cA2:(wA.alloc (.cells #[I x.s.d.o,I x.s.d.s,I x.s.d.i,I x.s.t,I x.v, .bool x.x] 365)).cell? ⟨p,0,none⟩=some (.slice none 0 0):=(HBL.out.alloc _).cell 0;go_region_law ((go_simp;go_at_call 317;refine HIN.out.mono ?_;rintro e w3 ⟨v3,rfl,hown3,hgr3,hat3⟩;obtain⟨a3,m3,cc3,rfl⟩:=zcd hown3;have HT4:Hid (Tch (fun _=>False) wA w3):=HT3.out.trans (Tch.grown hgr3) (fun _ _ h=>h) (fun j _ h=>by simp [Value.ownBlock] at h);have HOW:Hid (w3.ownsRow base 365 6 (.slice a3 m3 cc3) 1 (flat El.cells [x])):=hown3;have HAT:Hid ((Value.slice a3 m3 cc3).ownBlock=(Value.slice none 0 0).ownBlock∨∃b,(Value.slice a3 m3 cc3).ownBlock=some b∧wA.heap.size<=b):=hat3.imp id (fun⟨b,e,h⟩=>⟨b,e,by simp at h;omega⟩);have HB3:Hid (Blk w3 p #[.slice none 0 0] 208):=HT4.out.blk HBL.out id;have c3:w3.cell? ⟨p,0,none⟩=some (.slice none 0 0):=HB3.out.cell 0;have z3:w3.frozen? ⟨p,0,none⟩=false:=HB3.out.frozen 0;clear hown3 hgr3 hat3))
  all_goals
   (go_end0
    have hs:=HBA.out.size;have hpw:=HPW.out
    have hpb:∀b,(Value.slice a3 m3 cc3).ownBlock=some b->b ≠ p:=fun b e=>by
     rcases HAT.out with h | ⟨b',h,hl⟩
     ·rw [e] at h;cases h
     ·rw [e] at h;cases h;omega
    refine⟨_,rfl,⟨HB3.out.set 0 _, ?_,HL.out.le⟩, ?_,HAT.out.imp id (fun⟨b,e,h⟩=>⟨b,e,by omega⟩)⟩
    ·exact zag HOW.out (fun b e=>heap_setCell_other _ ⟨p,0,none⟩ b _ (hpb b e))
    ·refine Tch.setCell ?_ _ _ (Or.inl (Or.inl rfl))
     exact(Tch.below HBA.out).trans HT4.out (fun _ _ h=>h) (fun _ _ h=>h.elim))
theorem zzw(p base:Nat)(v:Value)(x:El)(d:Dt)(ls:List El)(w:World)(hB:base<=w.heap.size)(h:LsOwn w p base v ls)(hl:ls.length<=1048576):
  Calls prog 313 #[.pointer (some ⟨p,0,none⟩),elV x,dotV d] w fun e w'=>PutOk w p base v (putL ls x d) e w':=by
 rcases h.row.2 with⟨rfl,hz⟩ | ⟨g,cap,cur,rfl,_⟩
 ·obtain rfl:ls= []:=aw hz
  exact zzv p base x d w hB h
 ·exact zwk p base g cap x d ls w hB h hl
theorem zsj(p base:Nat)(d:Dt)(w:World)(h:LsOwn w p base (.slice none 0 0) []):
  Calls prog 314 #[.pointer (some ⟨p,0,none⟩),dotV d] w fun e w'=>zol w p base (.slice none 0 0) [] e w':=by
 have HL:Hid (LsOwn (w.alloc (.cells #[I d.o,I d.s,I d.i] 125)) p base (.slice none 0 0) []):=h.kept ((Below.refl _ _).alloc (ac _) _);have HG:Hid (w.grownBy (w.alloc (.cells #[I d.o,I d.s,I d.i] 125)) none):=World.grownBy_alloc w _ _;have c0:(w.alloc (.cells #[I d.o,I d.s,I d.i] 125)).cell? ⟨p,0,none⟩=some (.slice none 0 0):=HL.out.blk.cell 0;clear h;go_enter func314,ntmps314;go_wp2_with fail
 generalize w.alloc (.cells #[I d.o,I d.s,I d.i] 125)=wA at *
 go_loopw [10] (fun x wr=>x=I 0∧wr=wA) (fun _ _=>0)
 case atStart=>exact⟨rfl,rfl⟩
 case round=>
  obtain⟨rfl,rfl⟩:=hrel;go_wp2;go_end0;exact⟨rfl,HL.out,HG.out⟩
theorem zsk(p base:Nat)(v:Value)(d:Dt)(ls:List El)(w:World)(h:LsOwn w p base v ls)(hl:ls.length<=1048576):
  Calls prog 314 #[.pointer (some ⟨p,0,none⟩),dotV d] w fun e w'=>zol w p base v (ls.map (markE d)) e w':=by
 rcases h.row.2 with⟨rfl,hz⟩ | ⟨g,cap,cur,rfl,_⟩
 ·obtain rfl:ls= []:=aw hz
  exact zsj p base d w h
 ·exact zpx p base g cap d ls w h hl
def takeL(ls:List El)(s:Stp)(e:Ef):List El:=if e.op=5 then putL ls ⟨s,e.va,false⟩ e.ref else if e.op=6 then ls.map (markE e.ref) else ls
theorem zwj(p base:Nat)(v:Value)(s:Stp)(m:Em)(ls:List El)(w:World)(hB:base<=w.heap.size)(h:LsOwn w p base v ls)(hl:ls.length<=1048576):
  Calls prog 308 #[.pointer (some ⟨p,0,none⟩),stV s,effV m] w fun e w'=>PutOk w p base v (takeL ls s m.e) e w':=by
 have HL:Hid (LsOwn (twoC w s m) p base v ls):=h.kept (za0 w s m);have hs:w.heap.size<=(twoC w s m).heap.size:=(za0 w s m).size;go_enter func308,ntmps308;by_cases h5:m.e.op=5
 ·have HT:Hid (twoC w s m=(w.alloc (.cells #[I s.d.o,I s.d.s,I s.d.i,I s.t] 175)).alloc (.cells #[I 5,I m.e.ob,I m.e.va,I m.e.ref.o,I m.e.ref.s,I m.e.ref.i, .slice m.da m.e.dots.length m.dc] 128)):=by show _=_;unfold twoC;rw [h5]
  have HV:Hid (takeL ls s m.e=putL ls ⟨s,m.e.va,false⟩ m.e.ref):=by show _=_;unfold takeL;rw [aA h5]
  go_wp2_with fail
  rw [←HT.out];refine(zzw p base v ⟨s,m.e.va,false⟩ m.e.ref ls (twoC w s m) (by omega) HL.out hl).mono ?_;rintro e w1 ⟨v1,rfl,hL1,hT1,hA1⟩;have HE:Hid (PutOk w p base v (takeL ls s m.e) (.returned (.tuple #[])) w1):=⟨v1,rfl,by rw [HV.out];exact hL1,(Tch.below (za0 w s m)).trans hT1 (fun _ _ h=>h) (fun _ _ h=>h),hA1.imp id (fun⟨b,e,h⟩=>⟨b,e,by omega⟩)⟩
  clear hL1 hT1 hA1;go_wp2;go_end0;exact HE.out
 ·by_cases h6:m.e.op=6
  ·have HT:Hid (twoC w s m=(w.alloc (.cells #[I s.d.o,I s.d.s,I s.d.i,I s.t] 175)).alloc (.cells #[I 6,I m.e.ob,I m.e.va,I m.e.ref.o,I m.e.ref.s,I m.e.ref.i, .slice m.da m.e.dots.length m.dc] 128)):=by show _=_;unfold twoC;rw [h6]
   have HV:Hid (takeL ls s m.e=ls.map (markE m.e.ref)):=by show _=_;unfold takeL;rw [ap h5,aA h6]
   go_wp2_with fail
   rw [←HT.out];refine(zsk p base v m.e.ref ls (twoC w s m) HL.out hl).mono ?_;rintro e w1 ⟨rfl,hL1,hT1⟩;have HE:Hid (PutOk w p base v (takeL ls s m.e) (.returned (.tuple #[])) w1):=⟨v,rfl,by rw [HV.out];exact hL1,(Tch.below (za0 w s m)).trans (Tch.grown hT1) (fun _ _ h=>h) (fun _ _ h=>Or.inr h),Or.inl rfl⟩
   clear hL1 hT1;go_wp2;go_end0;exact HE.out
  ·have HV:Hid (takeL ls s m.e=ls):=by show _=_;unfold takeL;rw [ap h5,ap h6]
   go_wp2;go_end0;exact⟨v,rfl,by rw [HV.out];exact HL.out,Tch.below (za0 w s m),Or.inl rfl⟩
theorem zg6{w:World}{ops:Array Oper}{rest:List Oper}{o:Oper}{a:Act}{Q:Exit->Act->World->Prop}(hgd:o.guard=none)(x y:Operand)(t2:TypeId)
  (ho:o.op= .call {callee:= .builtin .delete,args:= #[x,y],argTypes:= #[200,t2]}) (b:Nat) (m:Lv) (d:Dt) (hx:a.eval x= .map (some b)) (hy:a.eval y=dotV d) (h:MpAt w b m)
  (hh:∀w',MpAt w' b (delD m d)->w.grownBy w' (some b)->wpList prog ops Q rest (a.put o.dst (.tuple #[])) w'):
  wpList prog ops Q (o::rest) a w:=by
 refine wpList_plain hgd fun K hK=> ?_
 obtain⟨w',hr,h2,h3⟩:=zj1 d w b o.type t2 m h;unfold Oper.wp execOp;simp only [ho,resolve,invoke,builtin,Sem.run_bind,Sem.run_pure,Result.andThen_ok,List.map_toArray,List.map_cons,List.map_nil,hx,hy,hr];exact hK _ _ (hh w' h2 h3)
theorem At.tch{w w':World}{a:Option Addr}{cs:List Value}{b:Nat}(h:At w a cs)(hg:Tch (fun j=>j=b) w w')(hm:∀j,w.cell? ⟨b,j,none⟩=none):At w' a cs:=by
 intro j u hj;obtain⟨p,o,e,hc⟩:=h j u hj;refine⟨p,o,e,hg.cell hc (fun e=> ?_)⟩;cases e
 rw [hm] at hc;cases hc
theorem MpAt.none{w:World}{b:Nat}{m:Lv}(h:MpAt w b m)(j:Nat):w.cell? ⟨b,j,none⟩=none:=by
 obtain⟨es,clock,hb,_⟩:=h;simp [World.cell?,hb]
def delsD(m:Lv)(ds:List Dt):Lv:=ds.foldl delD m
theorem zj7(b:Nat)(m:Lv)(da:Option Addr)(dc:Nat)(ds:List Dt)(w:World)(h:MpAt w b m)(hd:At w da (flat zac ds))(hl:ds.length<=1048576):
  Calls prog 251 #[.map (some b), .slice da ds.length dc] w fun e w'=>e= .returned (.tuple #[])∧MpAt w' b (delsD m ds)∧Tch (fun j=>j=b) w w':=by
 have HM:Hid (MpAt w b m):=h;have HD:Hid (At w da (flat zac ds)):=hd;clear h hd;go_enter func251,ntmps251;go_wp2_with fail
 go_loopw [8] (fun x wr=>∃k:Nat,k<=ds.length∧x=I k∧Hid (MpAt wr b (delsD m (ds.take k)))∧Hid (At wr da (flat zac ds))∧Hid (Tch (fun j=>j=b) w wr)) (fun x _=>ds.length - (intOf x).toNat)
 case atStart=>exact⟨0,az _,rfl,HM,HD,Tch.refl _ _⟩
 case round=>
  obtain⟨k,hk,rfl,HM2,HD2,HG2⟩:=hrel;clear HM HD;by_cases hlt:k<ds.length
  ·obtain⟨p,q,rfl,hp,hc⟩:=zhs HD2.out (by omega)
   obtain⟨e0,e1,e2⟩:=hc k hlt
   have HS:Hid (delsD m (ds.take (k+1))=delD (delsD m (ds.take k)) ds[k]):=by
    show _=_;unfold delsD;rw [aC hlt,List.foldl_append];rfl
   have hki:(k:Int)<ds.length:=by omega
   clear hc hp;generalize ds[k]=d at *
   go_wp2_with (first | (refine zg6 rfl _ _ _ rfl b (delsD m (ds.take k)) d rfl rfl (by exact HM2.out.same (Below.heap_alloc wr _ b HM2.out.lt)) ?_;intro w3 hm3 hg3;have HM3:Hid (MpAt w3 b (delsD m (ds.take (k+1)))):=(by show MpAt _ _ _;rw [HS.out];exact hm3);have HG3:Hid (Tch (fun j=>j=b) wr w3):=(Tch.below ((Below.refl _ _).alloc (ac _) _)).trans (Tch.grown hg3) (fun _ _ h=>h) (fun _ _ h=>by cases h;rfl);clear hm3 hg3))
   have HD3:Hid (At w3 (some ⟨p,q,none⟩) (flat zac ds)):=HD2.out.tch HG3.out (fun j=>HM2.out.none j);have HT3:Hid (Tch (fun j=>j=b) w w3):=HG2.out.then HG3.out;go_roundw
   case rel=>exact⟨k+1,hlt,by go_num,HM3,HD3,HT3⟩
   case measure=>simp [intOf];omega
  ·have HF:Hid (MpAt wr b (delsD m ds)):=by
    have:=HM2.out;rw [aM (by omega)] at this;exact this
   have hki:¬(k:Int)<ds.length:=by omega
   clear HM2;go_wp2;go_end0;exact⟨rfl,HF.out,HG2.out⟩
def takeS(m:Lv)(s:Stp)(e:Ef):Lv:=if e.op=2 then putD m s.d e.va else if e.op=3 then delsD m e.dots else m
def takeR(m:Lv)(s:Stp)(e:Ef):Lv:=putD (delsD m e.dots) s.d e.va
theorem zor{w:World}{g:Nat}{cs:Array Value}{t:TypeId}(h:Blk w g cs t)(s:Stp)(m:Em):Blk (twoC w s m) g cs t:=h.kept (za0 w s m) h.lt
theorem MpAt.below{w w':World}{b:Nat}{m:Lv}(h:MpAt w b m)(hb:Below w.heap.size w w'):MpAt w' b m:=h.same (hb.block b h.lt)
theorem zvx(p b:Nat)(l:Lv)(s:Stp)(m:Em)(w:World)(h:Blk w p #[.map (some b)] 204)(hm:MpAt w b l)(hd:At w m.da (flat zac m.e.dots))(hl:m.e.dots.length<=1048576):
  Calls prog 304 #[.pointer (some ⟨p,0,none⟩),stV s,effV m] w fun e w'=>e= .returned (.tuple #[])∧MpAt w' b (takeR l s m.e)∧Tch (fun j=>j=b) w w':=by
 obtain⟨wA,hwA⟩:∃wA,wA=twoC w s m:=⟨_,rfl⟩
 have HB:Hid (Blk wA p #[.map (some b)] 204):=by rw [hwA];exact zor h s m
 have HM:Hid (MpAt wA b l):=by rw [hwA];exact hm.below (za0 w s m)
 have HD:Hid (At wA m.da (flat zac m.e.dots)):=by rw [hwA];exact hd.kept (za0 w s m)
 have hpb:p ≠ b:=by
  rintro rfl;obtain⟨es,clock,hb,_⟩:=hm;have:=h.symm.trans hb;cases this
 have hbw:b<w.heap.size:=hm.lt;have c0:wA.cell? ⟨p,0,none⟩=some (.map (some b)):=HB.out.cell 0;have HS:Hid (Blk wA w.heap.size #[I s.d.o,I s.d.s,I s.d.i,I s.t] 175):=by rw [hwA];exact Blk.alloc (heap_alloc_new w _) _
 have HE:Hid (Blk wA (w.heap.size+1) #[I m.e.op,I m.e.ob,I m.e.va,I m.e.ref.o,I m.e.ref.s,I m.e.ref.i, .slice m.da m.e.dots.length m.dc] 128):=by rw [hwA];exact Blk.second w _ _ _
 have HT:Hid (Below w.heap.size w wA):=by rw [hwA];exact za0 w s m
 have e6:wA.cell? ⟨w.heap.size+1,6,none⟩=some (.slice m.da m.e.dots.length m.dc):=HE.out.cell 6;clear h hm hd;go_enter func304,ntmps304;go_wp2_with fail
 change Code.wp _ _ _ _ (twoC w s m);rw [←hwA];clear hwA;go_region_law ((go_simp;go_at_call 251;refine(zj7 b l m.da m.dc m.e.dots _ (by first | exact HM.out | exact HM.out.same rfl) (by first | exact HD.out | exact HD.out.kept (Below.refl _ _).drew) hl).mono ?_;rintro e w3 ⟨rfl,hm3,hT3⟩;have HM3:Hid (MpAt w3 b (delsD l m.e.dots)):=hm3;have HT3:Hid (Tch (fun j=>j=b) wA w3):=(by first | exact hT3 | exact((Tch.refl _ wA).drew).then hT3);clear hm3 hT3))
 all_goals
  (have HB3:Hid (Blk w3 p #[.map (some b)] 204):=HT3.out.blk HB.out hpb
   have HS3:Hid (Blk w3 w.heap.size #[I s.d.o,I s.d.s,I s.d.i,I s.t] 175):=HT3.out.blk HS.out (by omega);have HE3:Hid (Blk w3 (w.heap.size+1) #[I m.e.op,I m.e.ob,I m.e.va,I m.e.ref.o,I m.e.ref.s,I m.e.ref.i, .slice m.da m.e.dots.length m.dc] 128):=HT3.out.blk HE.out (by omega);have x0:w3.cell? ⟨p,0,none⟩=some (.map (some b)):=HB3.out.cell 0;have s0:w3.cell? ⟨w.heap.size,0,none⟩=some (I s.d.o):=HS3.out.cell 0;have s1:w3.cell? ⟨w.heap.size,1,none⟩=some (I s.d.s):=HS3.out.cell 1;have s2:w3.cell? ⟨w.heap.size,2,none⟩=some (I s.d.i):=HS3.out.cell 2;have v2:w3.cell? ⟨w.heap.size+1,2,none⟩=some (I m.e.va):=HE3.out.cell 2;clear HB HM HD HS HE c0 e6;go_wp2_with fail
   obtain⟨w4,hr4,hm4,hg4⟩:=zfh s.d m.e.va w3.drew b (delsD l m.e.dots) HM3.out;have HM4:Hid (MpAt w4 b (putD (delsD l m.e.dots) s.d m.e.va)):=hm4;have HT4:Hid (Tch (fun j=>j=b) w3 w4):=(((Tch.refl (fun j=>j=b) w3).drew).trans (Tch.grown hg4) (fun _ _ h=>h) (fun _ _ h=>by cases h;rfl))
   clear hm4 hg4
   go_region_law (fail))
 all_goals
  (go_end0
   exact⟨rfl,HM4.out,((Tch.below HT.out).then HT3.out).then HT4.out⟩)
theorem zvq(p b:Nat)(l:Lv)(s:Stp)(m:Em)(w:World)(h:Blk w p #[.map (some b)] 202)(hm:MpAt w b l)(hd:At w m.da (flat zac m.e.dots))(hl:m.e.dots.length<=1048576):
  Calls prog 246 #[.pointer (some ⟨p,0,none⟩),stV s,effV m] w fun e w'=>e= .returned (.tuple #[])∧MpAt w' b (takeS l s m.e)∧Tch (fun j=>j=b) w w':=by
 obtain⟨wA,hwA⟩:∃wA,wA=twoC w s m:=⟨_,rfl⟩
 have HB:Hid (Blk wA p #[.map (some b)] 202):=by rw [hwA];exact zor h s m
 have HM:Hid (MpAt wA b l):=by rw [hwA];exact hm.below (za0 w s m)
 have HD:Hid (At wA m.da (flat zac m.e.dots)):=by rw [hwA];exact hd.kept (za0 w s m)
 have hbw:b<w.heap.size:=hm.lt;have c0:wA.cell? ⟨p,0,none⟩=some (.map (some b)):=HB.out.cell 0;have HS:Hid (Blk wA w.heap.size #[I s.d.o,I s.d.s,I s.d.i,I s.t] 175):=by rw [hwA];exact Blk.alloc (heap_alloc_new w _) _
 have HE:Hid (Blk wA (w.heap.size+1) #[I m.e.op,I m.e.ob,I m.e.va,I m.e.ref.o,I m.e.ref.s,I m.e.ref.i, .slice m.da m.e.dots.length m.dc] 128):=by rw [hwA];exact Blk.second w _ _ _
 have HT:Hid (Below w.heap.size w wA):=by rw [hwA];exact za0 w s m
 have e0:wA.cell? ⟨w.heap.size+1,0,none⟩=some (I m.e.op):=HE.out.cell 0;have e2:wA.cell? ⟨w.heap.size+1,2,none⟩=some (I m.e.va):=HE.out.cell 2;have e6:wA.cell? ⟨w.heap.size+1,6,none⟩=some (.slice m.da m.e.dots.length m.dc):=HE.out.cell 6;have s0:wA.cell? ⟨w.heap.size,0,none⟩=some (I s.d.o):=HS.out.cell 0;have s1:wA.cell? ⟨w.heap.size,1,none⟩=some (I s.d.s):=HS.out.cell 1;have s2:wA.cell? ⟨w.heap.size,2,none⟩=some (I s.d.i):=HS.out.cell 2;clear h hm hd;go_enter func246,ntmps246;have HV:Hid ((m.e.op=2->takeS l s m.e=putD l s.d m.e.va)∧(m.e.op ≠ 2->m.e.op=3->takeS l s m.e=delsD l m.e.dots)∧(m.e.op ≠ 2->m.e.op ≠ 3->takeS l s m.e=l)):=⟨fun h=>by unfold takeS;rw [aA h],fun h h3=>by unfold takeS;rw [ap h,aA h3],fun h h3=>by unfold takeS;rw [ap h,ap h3]⟩
 by_cases h2:m.e.op=2
 ·have HV2:Hid (takeS l s m.e=putD l s.d m.e.va):=HV.out.1 h2
  have hq:(m.e.op==2)=true:=by simp [h2]
  clear h2 HV;go_wp2_with fail
  change Code.wp _ _ _ _ (twoC w s m);rw [←hwA];clear hwA;obtain⟨w4,hr4,hm4,hg4⟩:=zfh s.d m.e.va wA.drew b l HM.out;have HM4:Hid (MpAt w4 b (takeS l s m.e)):=by show MpAt _ _ _;rw [HV2.out];exact hm4
  have HT4:Hid (Tch (fun j=>j=b) wA w4):=(((Tch.refl (fun j=>j=b) wA).drew).trans (Tch.grown hg4) (fun _ _ h=>h) (fun _ _ h=>by cases h;rfl))
  clear hm4 hg4;go_region_law (fail)
  all_goals
   (go_wp2
    go_end0
    exact⟨rfl,HM4.out,(Tch.below HT.out).then HT4.out⟩)
 ·by_cases h3:m.e.op=3
  ·have HV2:Hid (takeS l s m.e=delsD l m.e.dots):=HV.out.2.1 h2 h3
   have hq:(m.e.op==2)=false:=by simp [h2]
   have hq3:(m.e.op==3)=true:=by simp [h3]
   clear h2 h3 HV;go_wp2_with fail
   change Code.wp _ _ _ _ (twoC w s m);rw [←hwA];clear hwA;go_region_law ((go_simp;go_at_call 251;refine(zj7 b l m.da m.dc m.e.dots _ (by first | exact HM.out | exact HM.out.same rfl) (by first | exact HD.out | exact HD.out.kept (Below.refl _ _).drew) hl).mono ?_;rintro e w3 ⟨rfl,hm3,hT3⟩;have HM3:Hid (MpAt w3 b (takeS l s m.e)):=(by show MpAt _ _ _;rw [HV2.out];exact hm3);have HT3:Hid (Tch (fun j=>j=b) wA w3):=(by first | exact hT3 | exact((Tch.refl _ wA).drew).then hT3);clear hm3 hT3))
   all_goals
    (go_wp2
     go_end0
     exact⟨rfl,HM3.out,(Tch.below HT.out).then HT3.out⟩)
  ·have HV2:Hid (takeS l s m.e=l):=HV.out.2.2 h2 h3
   have hq:(m.e.op==2)=false:=by simp [h2]
   have hq3:(m.e.op==3)=false:=by simp [h3]
   clear h2 h3 HV;have HF:Hid (MpAt (twoC w s m) b l):=by show MpAt _ _ _;rw [←hwA];exact HM.out
   go_wp2;go_end0;exact⟨rfl,by rw [HV2.out];exact HF.out,Tch.below (za0 w s m)⟩
theorem zln(w:World)(b:Nat)(es:Array MapEntry)(clock:Nat)(h:w.heap[b]?=some (.map es clock)):
    (callFunc 262 #[.iface 200 (.map (some b))]).run prog w= .ok (.value (.iface 200 (.map (some w.heap.size)))) (w.alloc (.map es clock)):=by
  rw [run_callFunc_extern func262 (by kernel_rfl) (by kernel_rfl) (by kernel_rfl) (e:=Extern.MapsClone.clone) (by kernel_rfl)]
  have h2:(Extern.MapsClone.clone #[.iface 200 (.map (some b))]).run prog w= .ok (.iface 200 (.map (some w.heap.size))) (w.alloc (.map es clock)):=by
    change Sem.run prog (α:=Value) (do
      let .map entries clock ← getObj b | stuck "maps.clone: a map expected"
      pure (.iface 200 (.map (some (←newObj (.map entries clock)))))) w=_
    simp only [Sem.run_bind,MapKept.run_getObj_map h,Result.andThen_ok];simp [newObj,Sem.run]
  rw [h2];rfl
theorem zo7(w:World)(b:Nat):(binOp .eql 200 (.map (some b)) (.map none)).run prog w= .ok (.bool false) w:=by
 have h:=run_equal_map_nil w 200 _ _ (some b) underlying200;simp only [binOp,Sem.run_bind,h];simp
theorem zjb(w:World)(xT:TypeId)(v:Value):(Instr.typeAssert (.iface 200 v) xT 200 false).run prog w= .ok v w:=by
 simp [Instr.typeAssert,run_underlying underlying200,go_sem,Result.andThen]
theorem zsh(b:Nat)(l:Lv)(w:World)(h:MpAt w b l):
  Calls prog 255 #[.map (some b)] w fun e w'=>e= .returned (.map (some w.heap.size))∧MpAt w' w.heap.size l∧Below w.heap.size w w':=by
 obtain⟨es,clock,hb,he,hst⟩:=h;have hcl:=zln w b es clock hb;have hnil:=zo7 w b;have has:=fun xT v=>zjb (w.alloc (.map es clock)) xT v
 have HE:Hid (MpAt (w.alloc (.map es clock)) w.heap.size l):=⟨es,clock,(MapKept.heap_alloc w _).1,he,hst⟩
 clear he hb hst;go_enter func255,ntmps255;go_wp2_with (simp only [hcl])
 go_ret;exact⟨rfl,HE.out,(Below.refl _ _).alloc (ac _) _⟩
theorem zkg(b:Nat)(l:Lv)(w:World)(h:MpAt w b l):
  Calls prog 248 #[.map (some b)] w fun e w'=>e= .returned (.map (some w.heap.size))∧MpAt w' w.heap.size l∧Below w.heap.size w w':=by
 go_enter func248,ntmps248;go_wp2_with fail
 refine(zsh b l w h).mono ?_;rintro e w1 ⟨rfl,hm,hb⟩;have HE:Hid (MpAt w1 w.heap.size l):=hm;have HB:Hid (Below w.heap.size w w1):=hb;clear hm hb h;go_wp2;go_ret;exact⟨rfl,HE.out,HB.out⟩
theorem zvv(p b:Nat)(l:Lv)(w:World)(h:Blk w p #[.map (some b)] 202)(hm:MpAt w b l):
  Calls prog 244 #[.pointer (some ⟨p,0,none⟩)] w fun e w'=>(∃q b',e= .returned (.iface 198 (.pointer (some ⟨q,0,none⟩)))∧w.heap.size<=q∧w.heap.size<=b'∧Blk w' q #[.map (some b')] 202∧MpAt w' b' l)∧Below w.heap.size w w':=by
 have c0:w.cell? ⟨p,0,none⟩=some (.map (some b)):=h.cell 0;have HM:Hid (MpAt w b l):=hm;clear h hm;go_enter func244,ntmps244;go_wp2_with fail
 refine(zkg b l w HM.out).mono ?_;rintro e w1 ⟨rfl,hm1,hb1⟩;have hs1:=hb1.size;have HE:Hid (MpAt (w1.alloc (.cells #[.map (some w.heap.size)] 202)) w.heap.size l):=hm1.below ((Below.refl _ _).alloc (ac _) _);have HK:Hid (Blk (w1.alloc (.cells #[.map (some w.heap.size)] 202)) w1.heap.size #[.map (some w.heap.size)] 202):=heap_alloc_new w1 _;have HB:Hid (Below w.heap.size w (w1.alloc (.cells #[.map (some w.heap.size)] 202))):=hb1.alloc hs1 _;have HS:Hid (w.heap.size<=w1.heap.size):=hs1;clear hm1 hb1 hs1;go_wp2;go_ret;exact⟨⟨_,_,rfl,HS.out,ac _,HK.out,HE.out⟩,HB.out⟩
theorem zv5(p b:Nat)(l:Lv)(w:World)(h:Blk w p #[.map (some b)] 204)(hm:MpAt w b l):
  Calls prog 302 #[.pointer (some ⟨p,0,none⟩)] w fun e w'=>(∃q b',e= .returned (.iface 203 (.pointer (some ⟨q,0,none⟩)))∧w.heap.size<=q∧w.heap.size<=b'∧Blk w' q #[.map (some b')] 204∧MpAt w' b' l)∧Below w.heap.size w w':=by
 have c0:w.cell? ⟨p,0,none⟩=some (.map (some b)):=h.cell 0;have HM:Hid (MpAt w b l):=hm;clear h hm;go_enter func302,ntmps302;go_wp2_with fail
 refine(zkg b l w HM.out).mono ?_;rintro e w1 ⟨rfl,hm1,hb1⟩;have hs1:=hb1.size;have HE:Hid (MpAt (w1.alloc (.cells #[.map (some w.heap.size)] 204)) w.heap.size l):=hm1.below ((Below.refl _ _).alloc (ac _) _);have HK:Hid (Blk (w1.alloc (.cells #[.map (some w.heap.size)] 204)) w1.heap.size #[.map (some w.heap.size)] 204):=heap_alloc_new w1 _;have HB:Hid (Below w.heap.size w (w1.alloc (.cells #[.map (some w.heap.size)] 204))):=hb1.alloc hs1 _;have HS:Hid (w.heap.size<=w1.heap.size):=hs1;clear hm1 hb1 hs1;go_wp2;go_ret;exact⟨⟨_,_,rfl,HS.out,ac _,HK.out,HE.out⟩,HB.out⟩
abbrev Clr:=Nat->Nat
def Ext(own own':Clr)(n:Nat):Prop:=∀b,b<n->own' b=own b
theorem Ext.refl(own:Clr)(n:Nat):Ext own own n:=fun _ _=>rfl
theorem Ext.trans{a b c:Clr}{n m:Nat}(h:Ext a b n)(h2:Ext b c m)(hm:n<=m):Ext a c n:=fun k hk=>(h2 k (by omega)).trans (h k hk)
def newTo(own:Clr)(n c:Nat):Clr:=fun b=>if b<n then own b else c
theorem zab(own:Clr)(n c:Nat):Ext own (newTo own n c) n:=fun b hb=>by unfold newTo;rw [aA hb]
theorem zaf(own:Clr)(n c b:Nat)(h:n<=b):newTo own n c b=c:=by unfold newTo;rw [ap (by omega)]
theorem zae(own:Clr)(n c b:Nat)(h:b<n):newTo own n c b=own b:=by unfold newTo;rw [aA h]
abbrev TchC (own:Clr) (c:Nat) (w w':World):Prop:=Tch (fun k=>own k=c) w w'
inductive Ob where
 | counter (n:Int)
 | set (m:Lv)
 | reg (m:Lv)
 | list (ls:List El)
def Ob.take:Ob->Stp->Ef->Ob
 | .counter n,_,e=> .counter (n+e.va)
 | .set m,s,e=> .set (takeS m s e)
 | .reg m,s,e=> .reg (takeR m s e)
 | .list ls,s,e=> .list (takeL ls s e)
def Ob.small:Ob->Prop
 | .counter n=> -1000000000<=n∧n<=1000000000
 | .list ls=>ls.length<=1000000
 | _=>True
def ObAt(w:World)(own:Clr)(c:Nat)(v:Value):Ob->Prop
 | .counter n=>∃p,v= .iface 195 (.pointer (some ⟨p,0,none⟩))∧own p=c∧Blk w p #[I n] 197
 | .set m=>∃p b,v= .iface 198 (.pointer (some ⟨p,0,none⟩))∧own p=c∧own b=c∧Blk w p #[.map (some b)] 202∧MpAt w b m
 | .reg m=>∃p b,v= .iface 203 (.pointer (some ⟨p,0,none⟩))∧own p=c∧own b=c∧Blk w p #[.map (some b)] 204∧MpAt w b m
 | .list ls=>∃p sv,v= .iface 205 (.pointer (some ⟨p,0,none⟩))∧own p=c∧(∀g,sv.ownBlock=some g->own g=c)∧LsOwn w p 0 sv ls
def Same(own:Clr)(c:Nat)(w w':World):Prop:=∀b,b<w.heap.size->own b=c->w'.heap[b]?=w.heap[b]?
theorem Tch.same{F:Nat->Prop}{own:Clr}{c:Nat}{w w':World}(h:Tch F w w')(hc:∀k,own k=c->¬F k):Same own c w w':=fun b hb ho=>h.block b hb (hc b ho)
theorem ObAt.keep{w w':World}{own own':Clr}{c:Nat}{v:Value}{o:Ob}(h:ObAt w own c v o)(hs:Same own c w w')(he:Ext own own' w.heap.size):ObAt w' own' c v o:=by
 cases o with
 | counter n=>
  obtain⟨p,e,hp,hb⟩:=h;exact⟨p,e,(he p hb.lt).trans hp,(hs p hb.lt hp).trans hb⟩
 | set m=>
  obtain⟨p,b,e,hp,hb,h1,h2⟩:=h;exact⟨p,b,e,(he p h1.lt).trans hp,(he b h2.lt).trans hb,(hs p h1.lt hp).trans h1,h2.same (hs b h2.lt hb)⟩
 | reg m=>
  obtain⟨p,b,e,hp,hb,h1,h2⟩:=h;exact⟨p,b,e,(he p h1.lt).trans hp,(he b h2.lt).trans hb,(hs p h1.lt hp).trans h1,h2.same (hs b h2.lt hb)⟩
 | list ls=>
  obtain⟨p,sv,e,hp,hg,h1⟩:=h;have hlt:∀g,sv.ownBlock=some g->g<w.heap.size:=fun g hgs=>(h1.row.lt g hgs).2
  exact⟨p,sv,e,(he p h1.blk.lt).trans hp,fun g hgs=>(he g (hlt g hgs)).trans (hg g hgs),⟨(hs p h1.blk.lt hp).trans h1.blk,zag h1.row (fun g hgs=>hs g (hlt g hgs) (hg g hgs)),h1.le⟩⟩
def zee(own:Clr)(c:Nat)(v:Value)(o:Ob)(w:World)(e:Ending)(w':World):Prop:=e= .returned (.tuple #[])∧∃own',Ext own own' w.heap.size∧ObAt w' own' c v o∧TchC own c w w'
theorem znh{w:World}{own:Clr}{c p:Nat}{n:Int}(s:Stp)(m:Em)(h:ObAt w own c (.iface 195 (.pointer (some ⟨p,0,none⟩))) (.counter n))(hs:(Ob.counter n).small)(h1: -1000<=m.e.va)(h2:m.e.va<=1000):
  Calls prog 242 #[.pointer (some ⟨p,0,none⟩),stV s,effV m] w fun e w'=>zee own c (.iface 195 (.pointer (some ⟨p,0,none⟩))) ((Ob.counter n).take s m.e) w e w':=by
 obtain⟨q,e,hp,hb⟩:=h;cases e
 obtain⟨hs1,hs2⟩:=hs;refine(zxq p n s m w hb (by omega) (by omega)).mono ?_;rintro e w' ⟨rfl,hb',hg⟩;exact⟨rfl,newTo own w.heap.size c,zab _ _ _,⟨p,rfl,(zae _ _ _ _ hb.lt).trans hp,hb'⟩,(Tch.grown hg).mono (fun k _ h=>by cases h;exact hp)⟩
theorem take_set{w:World}{own:Clr}{c p:Nat}{l:Lv}(s:Stp)(m:Em)(h:ObAt w own c (.iface 198 (.pointer (some ⟨p,0,none⟩))) (.set l))(hd:At w m.da (flat zac m.e.dots))(hl:m.e.dots.length<=1048576):
  Calls prog 246 #[.pointer (some ⟨p,0,none⟩),stV s,effV m] w fun e w'=>zee own c (.iface 198 (.pointer (some ⟨p,0,none⟩))) ((Ob.set l).take s m.e) w e w':=by
 obtain⟨q,b,e,hp,hob,hb,hm⟩:=h;cases e
 refine(zvq p b l s m w hb hm hd hl).mono ?_;rintro e w' ⟨rfl,hm',hT⟩
 have hpb:p ≠ b:=by
  rintro rfl;obtain⟨es,clock,hb2,_⟩:=hm;cases hb.symm.trans hb2
 exact⟨rfl,newTo own w.heap.size c,zab _ _ _,⟨p,b,rfl,(zae _ _ _ _ hb.lt).trans hp,(zae _ _ _ _ hm.lt).trans hob,hT.blk hb hpb,hm'⟩,hT.mono (fun k _ h=>by rw [h];exact hob)⟩
theorem zyj{w:World}{own:Clr}{c p:Nat}{l:Lv}(s:Stp)(m:Em)(h:ObAt w own c (.iface 203 (.pointer (some ⟨p,0,none⟩))) (.reg l))(hd:At w m.da (flat zac m.e.dots))(hl:m.e.dots.length<=1048576):
  Calls prog 304 #[.pointer (some ⟨p,0,none⟩),stV s,effV m] w fun e w'=>zee own c (.iface 203 (.pointer (some ⟨p,0,none⟩))) ((Ob.reg l).take s m.e) w e w':=by
 obtain⟨q,b,e,hp,hob,hb,hm⟩:=h;cases e
 refine(zvx p b l s m w hb hm hd hl).mono ?_;rintro e w' ⟨rfl,hm',hT⟩
 have hpb:p ≠ b:=by
  rintro rfl;obtain⟨es,clock,hb2,_⟩:=hm;cases hb.symm.trans hb2
 exact⟨rfl,newTo own w.heap.size c,zab _ _ _,⟨p,b,rfl,(zae _ _ _ _ hb.lt).trans hp,(zae _ _ _ _ hm.lt).trans hob,hT.blk hb hpb,hm'⟩,hT.mono (fun k _ h=>by rw [h];exact hob)⟩
theorem zvj{w:World}{own:Clr}{c p:Nat}{ls:List El}(s:Stp)(m:Em)(h:ObAt w own c (.iface 205 (.pointer (some ⟨p,0,none⟩))) (.list ls))(hs:(Ob.list ls).small):
  Calls prog 308 #[.pointer (some ⟨p,0,none⟩),stV s,effV m] w fun e w'=>zee own c (.iface 205 (.pointer (some ⟨p,0,none⟩))) ((Ob.list ls).take s m.e) w e w':=by
 obtain⟨q,sv,e,hp,hg,hL⟩:=h;cases e
 have hs':ls.length<=1000000:=hs;refine(zwj p 0 sv s m ls w (az _) hL (by omega)).mono ?_;rintro e w' ⟨sv',rfl,hL',hT,hA⟩;have hlt:∀g,sv.ownBlock=some g->g<w.heap.size:=fun g hgs=>(hL.row.lt g hgs).2
 refine⟨rfl,newTo own w.heap.size c,zab _ _ _,⟨p,sv',rfl,(zae _ _ _ _ hL.blk.lt).trans hp,fun g hgs=> ?_,hL'⟩,hT.mono (fun k _ h=> ?_)⟩
 ·rcases hA with h | ⟨b,h,hb⟩
  ·rw [hgs] at h
   exact(zae _ _ _ _ (hlt g h.symm)).trans (hg g h.symm)
  ·rw [hgs] at h
   cases h
   exact zaf _ _ _ _ hb
 ·rcases h with rfl | h
  ·exact hp
  ·exact hg k h
structure Bm where
 b:Bt
 ca:Option Addr
 ea:Option Addr
 cc:Nat
 ec:Nat
 ms:List Em
def Bm.cells(m:Bm):List Value:= [I m.b.o,I m.b.s,I m.b.t, .slice m.ca m.b.clock.length m.cc, .slice m.ea m.b.effs.length m.ec]
theorem zcq(m:Bm):m.cells.length=5:=rfl
abbrev bmV (m:Bm):Value:=bV m.b m.ca m.ea m.cc m.ec
theorem zty(ls:List Bm):∀u∈flat Bm.cells ls,u.oneCell'=true:=by
 induction ls with
 | nil=>intro u hu;simp [flat] at hu
 | cons m ls ih=>
  intro u hu;simp only [flat,Bm.cells,ao,ar,List.mem_nil_iff,or_false] at hu;rcases hu with(rfl | rfl | rfl | rfl | rfl) | hu
  ·rfl
  ·rfl
  ·rfl
  ·rfl
  ·rfl
  ·exact ih u hu
def At0(w:World)(own:Clr)(a:Option Addr)(cs:List Value):Prop:=∀j u,cs[j]?=some u->∃b o,a=some ⟨b,o,none⟩∧own b=0∧w.cell? ⟨b,o+j,none⟩=some u
theorem At0.keep{w w':World}{own own':Clr}{a:Option Addr}{cs:List Value}(h:At0 w own a cs)(hs:Same own 0 w w')(he:Ext own own' w.heap.size):At0 w' own' a cs:=fun j u hj=>by
 obtain⟨b,o,e,h0,hc⟩:=h j u hj;exact⟨b,o,e,(he b (zad hc)).trans h0,zbb hc (hs b (zad hc) h0)⟩
structure BatIn(w:World)(own:Clr)(m:Bm):Prop where
 clock:At0 w own m.ca (m.b.clock.map I)
 effs:m.b.effs=m.ms.map (·.e)
 cells:At0 w own m.ea (flat Em.cells m.ms)
 dots:∀x∈m.ms,At0 w own x.da (flat zac x.e.dots)
theorem BatIn.keep{w w':World}{own own':Clr}{m:Bm}(h:BatIn w own m)(hs:Same own 0 w w')(he:Ext own own' w.heap.size):BatIn w' own' m:=
 ⟨h.clock.keep hs he,h.effs,h.cells.keep hs he,fun x hx=>(h.dots x hx).keep hs he⟩
def zah(a b:Bt):Bool:=decide (orI (cmpI a.t b.t) (cmpI a.o b.o) (cmpI a.s b.s)<0)
theorem zi5(x y:Bm)(w:World):
  Calls prog 78 #[bmV x,bmV y] w fun e w'=>e= .returned (.bool (zah x.b y.b))∧Below w.heap.size w w':=by
 obtain⟨a,ca,ea,cc,ec,ms⟩:=x;obtain⟨b,da,fa,dc,fc,ns⟩:=y;have k0:Hid (((((w.alloc (.cells #[I a.o,I a.s,I a.t, .slice ca a.clock.length cc, .slice ea a.effs.length ec] 134)).alloc (.cells #[I b.o,I b.s,I b.t, .slice da b.clock.length dc, .slice fa b.effs.length fc] 134)).alloc (.cells #[I (cmpI a.t b.t),I (cmpI a.o b.o),I (cmpI a.s b.s)] 3)).drew).cell? ⟨w.heap.size+1+1,0,none⟩=some (I (cmpI a.t b.t))):=zde _ _ _ _ _ (by simp);have k1:Hid (((((w.alloc (.cells #[I a.o,I a.s,I a.t, .slice ca a.clock.length cc, .slice ea a.effs.length ec] 134)).alloc (.cells #[I b.o,I b.s,I b.t, .slice da b.clock.length dc, .slice fa b.effs.length fc] 134)).alloc (.cells #[I (cmpI a.t b.t),I (cmpI a.o b.o),I (cmpI a.s b.s)] 3)).drew).cell? ⟨w.heap.size+1+1,1,none⟩=some (I (cmpI a.o b.o))):=zde _ _ _ _ _ (by simp);have k2:Hid (((((w.alloc (.cells #[I a.o,I a.s,I a.t, .slice ca a.clock.length cc, .slice ea a.effs.length ec] 134)).alloc (.cells #[I b.o,I b.s,I b.t, .slice da b.clock.length dc, .slice fa b.effs.length fc] 134)).alloc (.cells #[I (cmpI a.t b.t),I (cmpI a.o b.o),I (cmpI a.s b.s)] 3)).drew).cell? ⟨w.heap.size+1+1,2,none⟩=some (I (cmpI a.s b.s))):=zde _ _ _ _ _ (by simp);go_enter func78,ntmps78;go_wp2_with fail
 go_region_held3 (fun w'=>w'.cell? ⟨w.heap.size,0,none⟩=some (I a.o)∧w'.cell? ⟨w.heap.size,1,none⟩=some (I a.s)∧w'.cell? ⟨w.heap.size,2,none⟩=some (I a.t)∧w'.cell? ⟨w.heap.size+1,0,none⟩=some (I b.o)∧w'.cell? ⟨w.heap.size+1,1,none⟩=some (I b.s)∧w'.cell? ⟨w.heap.size+1,2,none⟩=some (I b.t)) (go_keep)
  (first | (go_at_call 102;refine(zeb _ _ _).mono ?_;rintro e w' ⟨rfl,h⟩;subst h) | (go_at_call 101;refine(znw (cmpI a.t b.t) (cmpI a.o b.o) (cmpI a.s b.s) _ _ ?_ ?_ ?_).mono ?_;exact k0.out;exact k1.out;exact k2.out;rintro e w' ⟨rfl,h⟩;subst h))
 go_wp2;go_ret;exact⟨rfl,(((((Below.refl _ _).alloc (ac _) _).alloc (by simp) _)).alloc (by simp;omega) _).drew⟩
def OmAt(w:World)(b:Nat)(vs:List Value):Prop:=∃es clock,w.heap[b]?=some (.map es clock)∧es.toList.map (fun e=>(e.key,e.val))=vs.mapIdx (fun i v=>(I i,v))
theorem OmAt.lt{w:World}{b:Nat}{vs:List Value}(h:OmAt w b vs):b<w.heap.size:=by
 obtain⟨es,clock,hb,_⟩:=h;exact(am.1 hb).1
theorem OmAt.same{w w':World}{b:Nat}{vs:List Value}(h:OmAt w b vs)(hb:w'.heap[b]?=w.heap[b]?):OmAt w' b vs:=by
 obtain⟨es,clock,h1,h2⟩:=h;exact⟨es,clock,hb.trans h1,h2⟩
theorem zi3(k:Int):∀(es:List MapEntry) (vs:List Value) (a i:Nat),es.map (fun e=>(e.key,e.val))=vs.mapIdx (fun j v=>(I ((a+j:Nat):Int),v))->
  Instr.findNow (.int .i64) (I k) es i=some (if h:(a:Int)<=k∧k<a+vs.length then some (i+(k - a).toNat,vs[(k - a).toNat]'(by omega)) else none)
 | [], [],a,i,_=>by
  rw [dif_neg (by simp)];rfl
 | [],_::_,_,_,h=>by simp at h
 | _::_, [],_,_,h=>by simp at h
 | e::es,v::vs,a,i,h=>by
  simp only [List.map_cons,List.mapIdx_cons,List.cons.injEq,Prod.mk.injEq,Nat.add_zero] at h;obtain⟨⟨h1,h2⟩,h3⟩:=h
  have h3':es.map (fun e=>(e.key,e.val))=vs.mapIdx (fun j v=>(I ((a+1+j:Nat):Int),v)):=by
   rw [h3];congr 1
   funext j v
   congr 3
   omega
  have ih:=zi3 k es vs (a+1) (i+1) h3';unfold Instr.findNow;rw [h1];simp only [Instr.sameNow];by_cases hq:k=(a:Int)
  ·subst hq
   simp [h2];omega
  ·have hb:(k==(a:Int))=false:=by simp [hq]
   simp only [if_true,hb,ih];by_cases hr:(a:Int)<=k∧k<a+(v::vs).length
   ·rw [dif_pos hr,dif_pos (by simp at hr ⊢;omega)]
    have e1:(k - (a:Int)).toNat=(k - ((a+1:Nat):Int)).toNat+1:=by omega
    simp only [Option.some.injEq,Prod.mk.injEq];refine⟨by omega, ?_⟩;simp only [e1,List.getElem_cons_succ]
   ·rw [dif_neg hr,dif_neg (by simp at hr ⊢;omega)]
theorem zcc(k:Int)(b:Bool)(w:World):(Instr.checkKey b 10000 3 (I k)).run prog w= .ok () w:=by
 show(Instr.checkKey b (9999+1) 3 (.int .i64 k)).run prog w=_;rw [Instr.checkKey,Sem.run_bind,run_underlying underlying3];simp
theorem zcj(k:Int)(w:World)(es:List MapEntry)(vs:List Value)(h:es.map (fun e=>(e.key,e.val))=vs.mapIdx (fun i v=>(I i,v))):
  (Instr.findKey 3 (I k) es).run prog w= .ok (if h:0<=k∧k<vs.length then some (k.toNat,vs[k.toNat]'(by omega)) else none) w:=by
 have hf:=zi3 k es vs 0 0 (by rw [h];congr 1;funext j v;simp);unfold Instr.findKey;rw [Sem.run_bind,run_underlying underlying3];simp only [Result.andThen_ok];rw [hf];simp
theorem zed(k:Int)(w:World)(b:Nat)(vs:List Value)(h:OmAt w b vs)(hk:0<=k∧k<vs.length):(Instr.lookup 104 (.map (some b)) (I k) false).run prog w= .ok (vs[k.toNat]'(by omega)) w:=by
 obtain⟨es,clock,hb,he⟩:=h;unfold Instr.lookup;simp only [Sem.run_bind,run_underlying underlying104,Result.andThen_ok,MapKept.run_getObj_map hb,Sem.run_pure,zcc,zcj k w es.toList vs he];rw [dif_pos hk];simp
theorem zgn(k:Int)(w:World)(b:Nat)(vs:List Value)(h:OmAt w b vs)(hk:0<=k∧k<vs.length):(Instr.lookup 104 (.map (some b)) (I k) true).run prog w= .ok (.tuple #[vs[k.toNat]'(by omega), .bool true]) w:=by
 obtain⟨es,clock,hb,he⟩:=h;unfold Instr.lookup;simp only [Sem.run_bind,run_underlying underlying104,Result.andThen_ok,MapKept.run_getObj_map hb,Sem.run_pure,zcc,zcj k w es.toList vs he];rw [dif_pos hk];simp
theorem zgo(k:Int)(w:World)(b:Nat)(vs:List Value)(h:OmAt w b vs)(hk:¬(0<=k∧k<vs.length)):(Instr.lookup 104 (.map (some b)) (I k) true).run prog w= .ok (.tuple #[.nilIface, .bool false]) w:=by
 obtain⟨es,clock,hb,he⟩:=h;have hz:(zeroValue 112).run prog w= .ok .nilIface w:=Tryz.zeroValue112 w;unfold Instr.lookup;simp only [Sem.run_bind,run_underlying underlying104,Result.andThen_ok,MapKept.run_getObj_map hb,Sem.run_pure,zcc,zcj k w es.toList vs he];rw [dif_neg hk];simp [hz]
theorem zlk(v:Value)(w:World)(b:Nat)(vs:List Value)(h:OmAt w b vs):∃w',(Instr.mapUpdate 104 (.map (some b)) (I vs.length) v).run prog w= .ok () w'∧OmAt w' b (vs++ [v])∧w.grownBy w' (some b):=by
 have hlt:=h.lt;obtain⟨es,clock,hb,he⟩:=h;have hset:∀o:Obj,(setObj b o).run prog w= .ok () (setM w b o):=fun o=>MapKept.run_setObj_map o hb
 unfold Instr.mapUpdate;simp only [Sem.run_bind,run_underlying underlying104,Result.andThen_ok,MapKept.run_getObj_map hb,zcc,zcj _ w es.toList vs he];rw [dif_neg (by omega)];simp only [hset];refine⟨_,rfl,⟨_,_,zhc hlt _, ?_⟩,zdu w b _⟩;rw [Array.toList_push,aO,he,List.mapIdx_append];simp
structure Old(r s i:Int)(d:Dt):Prop where
 o:d.o=r
 s1:1<=d.s
 i0:0<=d.i
 i5:d.i<5
 lt:d.s<s∨d.s=s∧d.i<i
structure LsO(r s i:Int)(ls:List El):Prop where
 old:∀e∈ls,Old r s i e.s.d
 t:∀e∈ls,e.s.t=e.s.d.s
 nd:(ls.map (fun e=>e.s.d)).Nodup
theorem zim(d:Dt)(e:El):dotIs d e=true↔e.s.d=d:=by
 unfold dotIs eq3;obtain⟨⟨⟨o,s,i⟩,t⟩,v,x⟩:=e;obtain⟨o',s',i'⟩:=d;simp [and_assoc]
theorem zte{f:El->Bool}{l1 l2:List El}{e:El}(h1:∀x∈l1,f x=false)(he:f e=true):zax f (l1++e::l2)=l1.length:=by
 unfold zax;rw [List.findIdx?_append,List.findIdx?_eq_none_iff.2 h1,List.findIdx?_cons,he];simp
theorem ztd{f:El->Bool}{l:List El}(h:∀x∈l,f x=false):zax f l= -1:=by
 unfold zax;rw [List.findIdx?_eq_none_iff.2 h]
