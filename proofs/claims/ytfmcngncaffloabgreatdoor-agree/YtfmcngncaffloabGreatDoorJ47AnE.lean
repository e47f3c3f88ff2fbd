import Derived.Test.YtfmcngncaffloabGreatDoorJ45AnD
import Derived.Maps.OwnIn
set_option maxHeartbeats 3200000
namespace Go.Proofs.YtfmcngncaffloabGreatDoor
open Go.RowKit Go.Shelf Go.Proofs.Tryz Wv
set_option maxRecDepth 100000
attribute [local go_sem] Oper.semAt_some
theorem infoStr:(prog.info? 9).map (fun i=>(i.zero,i.size,i.bytes))=some (some (.string ⟨#[]⟩),1,16):=by kernel_rfl
def AnsOk(w:World)(fs:List (List UInt8))(e:Ending)(w':World):Prop:=(∃v,e= .returned v∧w'.ownsRow w.heap.size 9 1 v fs.length (fs.map strV))∧Below w.heap.size w w'
theorem zr2(own:Clr)(c p:Nat)(R:Rp)(l:List UInt8)(w:World)(hgg:Gg w)(h:RpAt w own c p R)(hcl:R.clock.length<=4)(hd:digOk l R.clock.length=false):
  Calls prog 91 #[.pointer (some ⟨p,0,none⟩), .string ⟨l.toArray⟩] w fun e w'=>AnsOk w [] e w':=by
 obtain⟨cg,cc,hp,mv,hv,ev,hs,es,h⟩:=h;have c2:w.cell? ⟨p,2,none⟩=some (.slice (some ⟨cg,0,none⟩) R.clock.length cc):=h.blk.cell 2
 have HC:Hid (Calls prog 130 #[.string ⟨l.toArray⟩,I R.clock.length] w fun e w'=>(∃a,e= .returned (.tuple #[.slice none 0 0,Sent a]))∧Below w.heap.size w w'):=by
  unfold digOk at hd;rw [decide_eq_false_iff_not] at hd;by_cases h1:l.length=R.clock.length+4
  ·exact zxn l _ w hgg hcl h1 (fun h2=>hd ⟨h1,h2⟩)
  ·exact zxo l _ w hgg hcl h1
 clear h hgg hd;go_enter func91,ntmps91;go_wp2_with fail
 refine HC.out.mono ?_;rintro e w1 ⟨⟨a,rfl⟩,hb1⟩;have HB:Hid (Below w.heap.size w w1):=hb1;clear hb1 HC;go_wp2;go_ret;exact⟨⟨_,rfl,World.ownsRow_nil _ _ _ _⟩,HB.out.alloc HB.out.size _⟩
def AnJ(w:World)(gk ck bk ba D n:Nat)(kn:List Int)(AF:List (List UInt8))(r:List UInt8)(W:World):Prop:=∃v acc,AnI w gk ck bk ba D kn v acc W∧acc.length<3∧(∃m,r.length<=m∧ansL kn m r acc=AF)∧LogN n r∧r.length<=10000000
def AnX(w:World)(gk ck bk ba D:Nat)(kn:List Int)(AF:List (List UInt8))(W:World):Prop:=∃v,AnI w gk ck bk ba D kn v AF W
theorem an_stop{w W:World}{gk ck bk ba D:Nat}{kn:List Int}{v:Value}{acc acc' AF:List (List UInt8)}{r:List UInt8}{b:Bt}(h:AnI w gk ck bk ba D kn v acc' W)(hd:dec (fstB r)=some b)(ha:(if b.s>kn.getD b.o.toNat 0 then acc++ [fstB r] else acc)=acc')(hrun:∃m,r.length<=m∧ansL kn m r acc=AF)(h3:acc'.length=3):AnX w gk ck bk ba D kn AF W:=by
 obtain⟨m,hm,hr⟩:=hrun;have:=(zm5 hd ha hm).1 h3;rw [hr] at this;subst this;exact⟨v,h⟩
theorem zuy{w W:World}{gk ck bk ba D n:Nat}{kn:List Int}{v:Value}{acc acc' AF:List (List UInt8)}{r:List UInt8}{b:Bt}(h:AnI w gk ck bk ba D kn v acc' W)(hd:dec (fstB r)=some b)(ha:(if b.s>kn.getD b.o.toNat 0 then acc++ [fstB r] else acc)=acc')(hrun:∃m,r.length<=m∧ansL kn m r acc=AF)(h3:acc'.length<3)(hln:LogN n r)(hrl:r.length<=10000000):AnJ w gk ck bk ba D n kn AF (r.drop (fstB r).length) W:=by
 obtain⟨m,hm,hr⟩:=hrun;obtain⟨k,hk,hk2⟩:=(zm5 hd ha hm).2 (by omega);exact⟨v,acc',h,h3,⟨k,hk,hk2.trans hr⟩,hln.tail hd,by rw [aP];omega⟩
theorem zpe(own:Clr)(c p:Nat)(R:Rp)(l:List UInt8)(w w0:World)(eb ef:Addr)(hI:zaj)(hg:Gd w0)(hen:Env w0 w own eb ef)(h:RpAt w own c p R)(hcl:R.clock.length<=4)(hcl1:1<=R.clock.length)(hd:digOk l R.clock.length=true)(hl:R.log.length<=10000000)(hln:LogN R.clock.length R.log):
  Calls prog 91 #[.pointer (some ⟨p,0,none⟩), .string ⟨l.toArray⟩] w fun e w'=>AnsOk w (ansL (digI l) R.log.length R.log []) e w':=by
 obtain⟨cg,cc,hp,mv,hv,ev,hs,es,h⟩:=h;have c2:w.cell? ⟨p,2,none⟩=some (.slice (some ⟨cg,0,none⟩) R.clock.length cc):=h.blk.cell 2;have HC5:Hid (w.cell? ⟨p,5,none⟩=some (.string ⟨R.log.toArray⟩)):=h.blk.cell 5;have hd':=hd;unfold digOk at hd';rw [aq] at hd';have HC:Hid (Calls prog 130 #[.string ⟨l.toArray⟩,I R.clock.length] w fun e w'=>(∃a c,e= .returned (.tuple #[.slice a R.clock.length c, .nilIface])∧w'.ownsRow w.heap.size 3 1 (.slice a R.clock.length c) R.clock.length ((digI l).map I))∧Below w.heap.size w w'):=zxm l _ w hcl hd'.1 hd'.2;have hkl:(digI l).length=R.clock.length:=by unfold digI;rw [av,body_len];have:=hd'.1;omega
 have HEV:Hid (∀W,Below w.heap.size w W->Gl W eb ef∧Pw W∧Gd W):=fun W hb=>⟨(hen.gl.kept hen.bel).kept hb,(hen.pw.kept hen.bel).kept hb,(hg.kept hen.bel).kept hb⟩
 have HLN:Hid (LogN R.clock.length R.log):=hln;obtain⟨AF,HAF⟩:∃AF,Hid (ansL (digI l) R.log.length R.log []=AF):=⟨_,rfl⟩
 rw [HAF.out];clear h hen hg hd hd' hln;generalize digI l=kn at *
 refine(callsIn_wide (n:=6)).1 (callsIn_of_wp_marks func91 rfl trivial (wpIn_wide.2 ?_) rfl);simp only [ntmps91,List.size_toArray,aJ,List.length_nil,Nat.reduceAdd,Nat.reduceSub,Array.replicate_succ,Array.replicate_zero,List.push_toArray,List.append_toArray,List.nil_append,aR];go_wp2_with fail
 refine HC.out.mono ?_;rintro e w1 ⟨⟨a,ck,rfl,hrow⟩,hb1⟩;have HB1:Hid (Below w.heap.size w w1):=hb1;obtain⟨gk,ck',hsl⟩:=zc6 hrow (by omega);cases hsl
 have HROW:Hid (w1.ownsRow w.heap.size 3 1 (.slice (some ⟨gk,0,none⟩) R.clock.length ck) R.clock.length (kn.map I)):=hrow;clear hb1 hrow HC;obtain⟨wA,hwA⟩:∃wA,wA=(w1.alloc (.cells #[.slice (some ⟨gk,0,none⟩) R.clock.length ck] 32)).alloc (.cells #[.slice none 0 0] 163):=⟨_,rfl⟩
 have HBA:Hid (Below w1.heap.size w1 wA):=by rw [hwA];exact((Below.refl _ _).alloc (ac _) _).alloc (by simp) _
 have HKB:Hid (Blk wA w1.heap.size #[.slice (some ⟨gk,0,none⟩) R.clock.length ck] 32):=by
  rw [hwA];exact(Below.heap_alloc _ _ _ (by simp)).trans (heap_alloc_new w1 _)
 have HAB:Hid (Blk wA (w1.heap.size+1) #[.slice none 0 0] 163):=by
  rw [hwA];have:=heap_alloc_new (w1.alloc (.cells #[.slice (some ⟨gk,0,none⟩) R.clock.length ck] 32)) (.cells #[.slice none 0 0] 163);rw [World.size_alloc] at this;exact this
 go_wp2_with fail
 change Calls _ _ _ ((w1.alloc (.cells #[.slice (some ⟨gk,0,none⟩) R.clock.length ck] 32)).alloc (.cells #[.slice none 0 0] 163)) _;rw [←hwA];clear hwA c2;refine(zi9 p 5 R.log wA (zaa HBA.out (zaa HB1.out HC5.out))).mono ?_;rintro e w5 ⟨rfl,hs5,hb5⟩;have HS5:Hid (w5.cell? ⟨wA.heap.size,0,none⟩=some (.string ⟨R.log.toArray⟩)):=hs5;have HB5:Hid (Below wA.heap.size wA w5):=hb5;clear hs5 hb5;go_wp2_with fail
 have hmo:prog.follows .mixedOrders=true:=by kernel_rfl
 have hD:w1.heap.size+1<w5.heap.size:=Nat.lt_of_lt_of_le HAB.out.lt HB5.out.size;have hgk:w.heap.size<=gk∧gk<w1.heap.size:=HROW.out.lt gk rfl
 have H0:Hid (∀o1 o2,AnJ w gk ck w1.heap.size (w1.heap.size+1) w5.heap.size R.clock.length kn AF R.log ((w5.alloc o1).alloc o2)):=fun o1 o2=>by
  have hb:Below wA.heap.size wA ((w5.alloc o1).alloc o2):=(HB5.out.alloc HB5.out.size o1).alloc (by have:=HB5.out.size;simp;omega) o2;have hb1:=HBA.out.trans (hb.mono HBA.out.size);refine⟨.slice none 0 0, [],⟨HB1.out.trans (hb1.mono HB1.out.size), ?_,fun j hj=>zaa hb1 ?_,HAB.out.kept hb HAB.out.lt,World.ownsRow_nil _ _ _ _,fun g e=>(by cases e),by omega,by omega,by omega,by omega,by simp,by omega,by omega⟩,by simp,⟨R.log.length,ac _,HAF.out⟩,HLN.out,hl⟩
  ·rw [hkl];exact HKB.out.kept hb HKB.out.lt
  ·have:=HROW.out.cells (g:=gk) rfl j (I kn[j]) (by simp [hj])
   simpa [Addr.add_lit] using this
 refine(wpIn_wide (n:=6)).1 ?_;refine zgj 4 0 wA.heap.size R.log eb ef hI (by rfl) HS5.out (by rfl) (AnJ w gk ck w1.heap.size (w1.heap.size+1) w5.heap.size R.clock.length kn AF) (AnX w gk ck w1.heap.size (w1.heap.size+1) w5.heap.size kn AF) ?hE ?hB ?hput ?hputx H0.out ?hround ?hdone ?hstop
 case hE=>
  rintro r W ⟨v,acc,h1,h2,h3,h4,h5⟩;obtain⟨e1,e2,e3⟩:=HEV.out W h1.bel;exact⟨e1,e2,e3,by omega⟩
 case hB=>
  rintro r W W' ⟨v,acc,h1,h2⟩ hb;exact⟨v,acc,h1.below hb,h2⟩
 case hput=>
  rintro r W o ⟨v,acc,h1,h2⟩;exact⟨v,acc,h1.put _ (Or.inr rfl) o,h2⟩
 case hputx=>
  rintro W o ⟨v,h1⟩;exact⟨v,h1.put _ (Or.inr rfl) o⟩
 case hround=>
  intro r x W0 W hlt hj hb hd hbat;obtain⟨v,acc,h1,h2,h3,h4,h5⟩:=hj;have HA:Hid (∀o,AnI w gk ck w1.heap.size (w1.heap.size+1) w5.heap.size kn v acc ((W.alloc (.cells (bmC x) 134)).putObj (w5.heap.size+1) o)):=fun o=>((h1.below hb).below ((Below.refl _ _).alloc (ac _) _)).put _ (Or.inr rfl) o
  have HBX:Hid (∀o,Blk ((W.alloc (.cells (bmC x) 134)).putObj (w5.heap.size+1) o) W.heap.size (bmC x) 134):=fun o=>(World.putObj_heap_other (by omega)).trans (heap_alloc_new W _)
  have HD:Hid (dec (fstB r)=some x.b):=hd;have HIB:Hid (Wv.isB x.b=true∧(fstB r).length<=65535):=zht hd;have HLR:Hid (LogN R.clock.length r):=h4;have HRN:Hid (∃m,r.length<=m∧ansL kn m r acc=AF):=h3;have HKP:Hid (Kp2 w5.heap.size W (W.alloc (.cells (bmC x) 134))):=Kp2.below ((Below.refl _ _).alloc (ac _) _) hlt;clear h1 h3 h4 hb hd hbat H0 HROW HBA HKB HAB HS5 HB5 HAF HLN HC5;gi_wp2
  refine⟨HKP.out,fun o=> ?_⟩;obtain⟨W2,hW2⟩:∃W2,W2=(W.alloc (.cells (bmC x) 134)).putObj (w5.heap.size+1) o:=⟨_,rfl⟩
  have HA2:Hid (AnI w gk ck w1.heap.size (w1.heap.size+1) w5.heap.size kn v acc W2):=by rw [hW2];exact HA.out o
  have HX2:Hid (Blk W2 W.heap.size (bmC x) 134):=by rw [hW2];exact HBX.out o
  change Code.wpIn _ _ _ _ (rPost w5.heap.size 0 (AnJ w gk ck w1.heap.size (w1.heap.size+1) w5.heap.size R.clock.length kn AF (r.drop (fstB r).length)) (AnX w gk ck w1.heap.size (w1.heap.size+1) w5.heap.size kn AF) ((W.alloc (.cells (bmC x) 134)).putObj (w5.heap.size+1) o)) _ ((W.alloc (.cells (bmC x) 134)).putObj (w5.heap.size+1) o);rw [←hW2];clear hW2 HA HBX HKP;have hcn:x.b.clock.length=R.clock.length:=HLR.out.head HD.out;have ho0:0<=x.b.o:=(zal HIB.out.1).2.1;have ho1:x.b.o<(kn.length:Int):=by have:=(zal HIB.out.1).2.2.1;omega
  have hon:x.b.o.toNat<kn.length:=by omega
  have ho2:x.b.o<(R.clock.length:Int):=by omega
  have y0:W2.cell? ⟨W.heap.size,0,none⟩=some (I x.b.o):=HX2.out.cell 0;have y1:W2.cell? ⟨W.heap.size,1,none⟩=some (I x.b.s):=HX2.out.cell 1;have k0:W2.cell? ⟨w1.heap.size,0,none⟩=some (.slice (some ⟨gk,0,none⟩) kn.length ck):=HA2.out.kb.cell 0;have k1:W2.cell? ⟨gk,x.b.o.toNat,none⟩=some (I (kn.getD x.b.o.toNat 0)):=by rw [HA2.out.kc _ hon];simp [hon]
  have a0:W2.cell? ⟨w1.heap.size+1,0,none⟩=some v:=HA2.out.ab.cell 0;have za:W2.frozen? ⟨w1.heap.size+1,0,none⟩=false:=HA2.out.ab.frozen 0;obtain⟨z,HZ⟩:∃z,Hid (kn.getD x.b.o.toNat 0=z):=⟨_,rfl⟩
  rw [HZ.out] at k1;gi_wp2
  refine wpIn_mono (Q:=fun e a' W'=>e= .normal∧a'={tmps:= #[.pointer (some ⟨p,0,none⟩), .string ⟨l.toArray⟩,undef,undef, .slice none 0 0, .pointer (some ⟨w1.heap.size,0,none⟩), .nilIface, .pointer (some ⟨w1.heap.size+1,0,none⟩), .pointer (some ⟨W.heap.size,0,none⟩), .string ⟨(fstB r).toArray⟩, .tuple #[.slice (some ⟨gk,0,none⟩) R.clock.length ck, .nilIface], .string ⟨l.toArray⟩, .pointer (some ⟨p,0,none⟩), .pointer (some ⟨p,0,none⟩), .pointer (some ⟨p,2,none⟩), .slice (some ⟨cg,0,none⟩) R.clock.length cc, .int .i64 R.clock.length, .tuple #[.slice (some ⟨gk,0,none⟩) R.clock.length ck, .nilIface], .slice (some ⟨gk,0,none⟩) R.clock.length ck, .nilIface, .nilIface, .bool false, .pointer (some ⟨p,0,none⟩), .pointer (some ⟨p,0,none⟩), .pointer (some ⟨p,5,none⟩),AllV wA.heap.size,bV x.b x.ca x.ea x.cc x.ec, .string ⟨(fstB r).toArray⟩, .pointer (some ⟨W.heap.size,1,none⟩),I x.b.s, .slice (some ⟨gk,0,none⟩) R.clock.length ck, .pointer (some ⟨W.heap.size,0,none⟩),I x.b.o, .pointer (some ⟨gk,x.b.o.toNat,none⟩),I z, .bool (decide (z<x.b.s)),undef,undef,undef,undef,undef,undef,undef,undef],defers:= []}∧W'=W2.drew) ?reg ?rest
  case reg=>
   gi_region_with_o (fail)
   all_goals exact⟨rfl,rfl,rfl⟩
  case rest=>
   rintro e a' W' ⟨rfl,rfl,rfl⟩;dsimp only
   obtain⟨i0,hi,hz0,hz1,hz2⟩:=info_parts infoStr;have HAD:Hid (AnI w gk ck w1.heap.size (w1.heap.size+1) w5.heap.size kn v acc W2.drew):=HA2.out.below ((Below.refl _ _).drew);have HKD:Hid (Kp2 w5.heap.size W2 W2.drew):=⟨rfl,rfl⟩
   obtain⟨W3,hW3⟩:∃W3,W3=W2.drew:=⟨_,rfl⟩
   rw [←hW3] at HAD HKD ⊢;clear y0 y1 k0 k1 a0 za hW3 HX2;have hbs:=HAD.out.bel.size;have a0:W3.cell? ⟨w1.heap.size+1,0,none⟩=some v:=HAD.out.ab.cell 0;have za:W3.frozen? ⟨w1.heap.size+1,0,none⟩=false:=HAD.out.ab.frozen 0;have hsl:=zd0 HAD.out.row;obtain⟨va,vc,rfl⟩:=hsl;have HBO:Hid (z=kn.getD x.b.o.toNat 0):=HZ.out.symm;by_cases hz:z<x.b.s
   ·have HIF:Hid ((if x.b.s>kn.getD x.b.o.toNat 0 then acc++ [fstB r] else acc)=acc++ [fstB r]):=by
     show _=_;rw [aA (by rw [←HBO.out];exact hz)]
    gi_wp2_with (first
     | (gi_at_builtin;refine wpListIn_append_own_at _ rfl _ _ 163 rfl w.heap.size 9 i0 (.string ⟨#[]⟩) 1 16 underlying163 hi hz0 hz1 hz2 rfl (by decide) (.slice va acc.length vc) acc.length (acc.map strV) rfl (HAD.out.row.alloc _) ⟨W3.heap.size,0,none⟩ 1 1 [strV (fstB r)] rfl rfl (litAt _ _ _ _ rfl) (by simp [Value.oneCell',strV]) (by unfold maxLen;omega) (by omega) (by simp;omega) ?_;intro v' w6 hown6 hg6 hnil6 hat6;obtain⟨va6,vc6,rfl⟩:=zd0 hown6;have HA6:Hid (AnI w gk ck w1.heap.size (w1.heap.size+1) w5.heap.size kn (.slice va6 (acc.length+1) vc6) (acc++ [fstB r]) (w6.setCell ⟨w1.heap.size+1,0,none⟩ (.slice va6 (acc.length+1) vc6))):=HAD.out.app hg6 hown6 hat6;have HK6:Hid (Kp2 w5.heap.size W3 (w6.setCell ⟨w1.heap.size+1,0,none⟩ (.slice va6 (acc.length+1) vc6))):=HAD.out.app_kp hg6 _;have HB6:Hid (Blk w6 (w1.heap.size+1) #[.slice va acc.length vc] 163):=HAD.out.app_ab hg6;have a6:w6.cell? ⟨w1.heap.size+1,0,none⟩=some (.slice va acc.length vc):=HB6.out.cell 0;have z6:w6.frozen? ⟨w1.heap.size+1,0,none⟩=false:=HB6.out.frozen 0;clear hown6 hg6 hnil6 hat6)
     | gi_in)
    ·rename_i h3
     have h3':(acc++ [fstB r]).length=3:=by have:=eq_of_beq h3;simp;omega
     exact⟨HKD.out.trans HK6.out,rfl,an_stop HA6.out HD.out HIF.out HRN.out h3'⟩
    ·rename_i h3
     have h3':(acc++ [fstB r]).length<3:=by have:=ne_of_beq_false h3;simp;omega
     exact⟨HKD.out.trans HK6.out,zuy HA6.out HD.out HIF.out HRN.out h3' HLR.out h5⟩
   ·have HIF:Hid ((if x.b.s>kn.getD x.b.o.toNat 0 then acc++ [fstB r] else acc)=acc):=by
     show _=_;rw [ap (by rw [←HBO.out];exact hz)]
    have hne:((acc.length:Int)==3)=false:=beq_eq_false_iff_ne.2 (by omega);gi_wp2
    exact⟨HKD.out,zuy HAD.out HD.out HIF.out HRN.out h2 HLR.out h5⟩
 case hdone=>
   intro r W hd hj hK
   have HX:Hid (AnX w gk ck w1.heap.size (w1.heap.size+1) w5.heap.size kn AF W):=by
    obtain⟨v,acc,h1,h2,⟨m,_,h3⟩,h4⟩:=hj;rw [zis hd] at h3;subst h3;exact⟨v,h1⟩
   have HK:Hid (W.heap[w5.heap.size]?=some (.deferred (some []))):=hK;clear hd hj hK H0 HROW HBA HKB HAB HS5 HB5 HAF HLN HC5;gi_wp2
   obtain⟨v,hA⟩:=HX.out;obtain⟨va,vc,rfl⟩:=zd0 hA.row;have HA:Hid (AnI w gk ck w1.heap.size (w1.heap.size+1) w5.heap.size kn (.slice va AF.length vc) AF W):=hA;have a0:W.cell? ⟨w1.heap.size+1,0,none⟩=some (.slice va AF.length vc):=hA.ab.cell 0;have HP:Hid (AnI w gk ck w1.heap.size (w1.heap.size+1) w5.heap.size kn (.slice va AF.length vc) AF (W.putObj w5.heap.size (.deferred none))):=hA.put _ (Or.inl rfl) _;clear hA;go_wp2_with fail
   refine⟨by simp, .inl ⟨_,_,rfl,run_takeDeferred HK.out, ?_⟩⟩;exact⟨_,results_tmp rfl _ _ _,⟨.slice va AF.length vc,rfl,HP.out.row⟩,HP.out.bel⟩
 case hstop=>
   intro W hj hK;have HX:Hid (AnX w gk ck w1.heap.size (w1.heap.size+1) w5.heap.size kn AF W):=hj;have HK:Hid (W.heap[w5.heap.size]?=some (.deferred (some []))):=hK;clear hj hK H0 HROW HBA HKB HAB HS5 HB5 HAF HLN HC5;gi_wp2
   obtain⟨v,hA⟩:=HX.out;obtain⟨va,vc,rfl⟩:=zd0 hA.row;have HA:Hid (AnI w gk ck w1.heap.size (w1.heap.size+1) w5.heap.size kn (.slice va AF.length vc) AF W):=hA;have a0:W.cell? ⟨w1.heap.size+1,0,none⟩=some (.slice va AF.length vc):=hA.ab.cell 0;have HP:Hid (AnI w gk ck w1.heap.size (w1.heap.size+1) w5.heap.size kn (.slice va AF.length vc) AF (W.putObj w5.heap.size (.deferred none))):=hA.put _ (Or.inl rfl) _;clear hA;go_wp2_with fail
   refine⟨by simp, .inl ⟨_,_,rfl,run_takeDeferred HK.out, ?_⟩⟩;exact⟨_,results_tmp rfl _ _ _,⟨.slice va AF.length vc,rfl,HP.out.row⟩,HP.out.bel⟩
