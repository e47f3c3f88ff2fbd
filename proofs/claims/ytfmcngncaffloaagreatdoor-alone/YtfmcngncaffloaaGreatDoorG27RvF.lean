import Derived.Test.YtfmcngncaffloaaGreatDoorG26RvC
set_option maxHeartbeats 6400000
namespace Go.Proofs.YtfmcngncaffloaaGreatDoor
open Go.RowKit
set_option maxRecDepth 100000
theorem zet(ks:List Mk)(a:Option Addr)(c:Nat)(mk en:Int)(w:World)(h:MksAt w a ks)(hl:ks.length<=1048576)(hd:∀k∈ks,k.m.e.dots.length<=1048576):
    Calls Tryz.prog 171 #[.slice a ks.length c,I mk,I en] w fun e w'=>∃v',e= .returned v'∧w'.ownsRow w.heap.size 259 11 v' (livK ks mk en).length (flat Mk.cells (livK ks mk en))∧Below w.heap.size w w':=by
  have HM:Hid (MksAt w a ks):=h
  have HD:Hid (∀k∈ks,k.m.e.dots.length<=1048576):=hd
  obtain⟨i1,HI1⟩:∃i,Hid (Tryz.prog.info? 259=some i∧i.zero=some mkZ∧i.size=11∧i.bytes=104):=by obtain⟨i,h⟩:=info_parts zg7;exact⟨i,h⟩
  clear h hd
  go_enter Tryz.func171,Tryz.ntmps171
  go_wp2_with fail
  go_loopw [7,8] (fun y x wr=>∃(i:Nat) (oa:Option Addr) (oc:Nat) (out:List Mk),i<=ks.length∧x=I i∧y= .slice oa out.length oc∧Hid (out=(ks.take i).foldl (za7 ks mk en) [])∧Hid (wr.ownsRow w.heap.size 259 11 (.slice oa out.length oc) out.length (flat Mk.cells out))∧Hid (Below w.heap.size w wr)) (fun _ x _=>ks.length - (intOf x).toNat)
  case atStart=>exact⟨0,none,0, [],by omega,rfl,rfl,rfl,⟨rfl, .inl ⟨rfl,rfl⟩⟩,Below.refl _ _⟩
  case round=>
    obtain⟨i,oa,oc,out,hi,rfl,rfl,HO,HR,HB⟩:=hrel
    by_cases hlt:i<ks.length
    · have hii : (i:Int)<ks.length:=by omega
      obtain⟨p,q,rfl,hc⟩:=zbh HM.out.row (by omega)
      have e7:wr.cell? ⟨p,q+i*11+7,none⟩=some (I ks[i].d.o):=zaa HB.out (hc i hlt 7 _ rfl)
      have e8:wr.cell? ⟨p,q+i*11+8,none⟩=some (I ks[i].d.s):=zaa HB.out (hc i hlt 8 _ rfl)
      have e9:wr.cell? ⟨p,q+i*11+9,none⟩=some (I ks[i].d.i):=zaa HB.out (hc i hlt 9 _ rfl)
      have HCL:Hid (∀w',Below w.heap.size w w'->∀j u,ks[i].cells[j]?=some u->w'.cell? ⟨p,q+i*11+j,none⟩=some u):=fun w' hb j u hu=>zaa hb (hc i hlt j u hu)
      have HSU:Hid ((ks.take (i+1)).foldl (za7 ks mk en) []=za7 ks mk en out ks[i]):=by show _=_;rw [zck _ _ _ _ hlt,HO.out]
      have HOL:Hid (out.length<=i):=by show _<=_;rw [HO.out];have:=zne ks mk en (ks.take i);rw [List.length_take] at this;omega
      clear hc
      generalize ks[i]=k at *
      go_wp2_with fail
      refine(zj8 ks (some ⟨p,q,none⟩) c en k.d wr (HM.out.kept HB.out) hl HD.out).mono ?_
      rintro e w1 ⟨rfl,hb1⟩
      have HB1:Hid (Below w.heap.size w w1):=HB.out.trans (hb1.mono HB.out.size)
      have HR1:Hid (w1.ownsRow w.heap.size 259 11 (.slice oa out.length oc) out.length (flat Mk.cells out)):=za6 HR.out hb1
      have f0:w1.cell? ⟨p,q+i*11,none⟩=some (I k.m.e.op):=HCL.out w1 HB1.out 0 _ rfl
      clear e7 e8 e9 HB HR hb1
      by_cases hop:k.m.e.op=mk
      · have hopb:(k.m.e.op !=mk)=false:=by simp [hop]
        cases hgn:goneK ks en k.d with
        | true=>
          have HN2:Hid (out=(ks.take (i+1)).foldl (za7 ks mk en) []):=by show _=_;rw [HSU.out];unfold za7;rw [if_neg (by rw [hgn];simp)]
          clear HSU HO HCL
          go_wp2_with fail
          go_roundw
          case rel=>exact⟨i+1,oa,oc,out,by omega,by go_num,rfl,HN2,HR1,HB1⟩
          case measure=>simp [intOf];omega
        | false=>
          have HN2:Hid ((ks.take (i+1)).foldl (za7 ks mk en) []=insK (fun x=>Wv.lessD x.d k.d) out k):=by show _=_;rw [HSU.out];unfold za7;rw [if_pos ⟨hop,hgn⟩]
          clear HSU HO
          go_wp2_with fail
          go_loopw [10] (fun x wx=>∃j:Nat,j<=out.length∧x=I j∧Hid (∀n (hn:n<out.length),n<j->Wv.lessD out[n].d k.d=true)∧Hid (wx.ownsRow w.heap.size 259 11 (.slice oa out.length oc) out.length (flat Mk.cells out))∧Hid (Below w.heap.size w wx)) (fun x _=>out.length - (intOf x).toNat)
          case atStart=>exact⟨0,by omega,rfl,fun n _ h=>absurd h (by omega),HR1,HB1⟩
          case round=>
            obtain⟨j,hj,rfl,HJ,HRj,HBj⟩:=hrel
            clear f0 HR1 HB1 hop hopb
            go_upto_region 8 with fail
            go_cut [53] (fun v w'=>∃b:Bool,v= .bool b∧Hid (b=if hn:j<out.length then Wv.lessD out[j].d k.d else false)∧Hid (w'.ownsRow w.heap.size 259 11 (.slice oa out.length oc) out.length (flat Mk.cells out))∧Hid (Below w.heap.size w w'))
            case first=>
              by_cases hjt:j<out.length
              · have hjj:(j:Int)<out.length:=by omega
                obtain⟨p2,q2,rfl,hc2⟩:=zbh (zaw HRj.out) (by omega)
                have x7:wr.cell? ⟨p2,q2+j*11+7,none⟩=some (I out[j].d.o):=hc2 j hjt 7 _ rfl
                have x8:wr.cell? ⟨p2,q2+j*11+7+1,none⟩=some (I out[j].d.s):=hc2 j hjt 8 _ rfl
                have x9:wr.cell? ⟨p2,q2+j*11+7+2,none⟩=some (I out[j].d.i):=hc2 j hjt 9 _ rfl
                have y7:wr.cell? ⟨p,q+i*11+7,none⟩=some (I k.d.o):=HCL.out wr HBj.out 7 _ rfl
                have y8:wr.cell? ⟨p,q+i*11+7+1,none⟩=some (I k.d.s):=HCL.out wr HBj.out 8 _ rfl
                have y9:wr.cell? ⟨p,q+i*11+7+2,none⟩=some (I k.d.i):=HCL.out wr HBj.out 9 _ rfl
                have HLB:Hid ((if hn:j<out.length then Wv.lessD out[j].d k.d else false)=Wv.lessD out[j].d k.d):=dif_pos hjt
                clear hc2
                generalize out[j].d=dj at *
                go_region_held3 (fun w'=>w'.cell? ⟨p2,q2+j*11+7,none⟩=some (I dj.o)∧w'.cell? ⟨p2,q2+j*11+7+1,none⟩=some (I dj.s)∧w'.cell? ⟨p2,q2+j*11+7+2,none⟩=some (I dj.i)∧w'.cell? ⟨p,q+i*11+7,none⟩=some (I k.d.o)∧w'.cell? ⟨p,q+i*11+7+1,none⟩=some (I k.d.s)∧w'.cell? ⟨p,q+i*11+7+2,none⟩=some (I k.d.i)) (first | go_keep | (refine⟨zaa hb0 ?_,zaa hb0 ?_,zaa hb0 ?_,zaa hb0 ?_,zaa hb0 ?_,zaa hb0 ?_⟩<;>go_keep))
                  (first | (go_at_call 196;refine(ziz dj k.d _).mono ?_;rintro e w3 ⟨rfl,hb0⟩))
                have HBf:Hid (Below w.heap.size w w3):=HBj.out.trans (((Below.refl _ _).drew.trans hb0).mono HBj.out.size)
                have HRf:Hid (w3.ownsRow w.heap.size 259 11 (.slice (some ⟨p2,q2,none⟩) out.length oc) out.length (flat Mk.cells out)):=za6 HRj.out ((Below.refl _ _).drew.trans hb0)
                clear hb0
                go_wp2_with fail
                go_meet
                exact⟨_,rfl,HLB.out.symm,HRf,HBf⟩
              · have hjj:¬(j:Int)<out.length:=by omega
                go_quiet (fail)
                go_wp2_with fail
                go_meet
                exact⟨false,rfl,(by show _=_;rw [dif_neg hjt]),za6 HRj.out (zal (Below.refl _ _) nq),zal HBj.out nq⟩
            case rest=>
              obtain⟨b,rfl,HBB,HR2,HB2⟩:=hcut
              clear HRj HBj
              have hol:out.length<=i:=HOL.out
              cases b with
              | true=>
                have hjt:j<out.length:=by
                  by_cases hjt:j<out.length
                  · exact hjt
                  · have:=HBB.out;rw [dif_neg hjt] at this;cases this
                have HLS:Hid (Wv.lessD out[j].d k.d=true):=by have:=HBB.out;rw [dif_pos hjt] at this;exact this.symm
                go_wp2_with fail
                go_roundw
                case rel=>
                  refine⟨j+1,by omega,by go_num,fun n hn h1=> ?_,HR2,HB2⟩
                  by_cases hnj:n=j
                  · subst hnj;exact HLS.out
                  · exact HJ.out n hn (by omega)
                case measure=>simp [intOf];omega
              | false=>
                have HTW:Hid ((out.takeWhile (fun x=>Wv.lessD x.d k.d)).length=j):=zc1 _ out j hj (fun n hn h1=>HJ.out n hn h1) (fun hn=>by have:=HBB.out;rw [dif_pos hn] at this;exact this.symm)
                have hoc:out.length<=oc:=(zdy HR2.out).1
                obtain⟨s1,c1,hs1,hA1,hn1⟩:=zrx (zaw HR2.out) hj hoc
                obtain⟨s2,c2,hs2,hA2,hn2⟩:=zrw (zaw HR2.out) hj hoc
                have HS1:Hid (∀w',(Instr.sliceAt 222 (.slice oa out.length oc) none (some (I j)) none).run Tryz.prog w'= .ok (.slice s1 j c1) w'):=hs1
                have HS2:Hid (∀w',(Instr.sliceAt 222 (.slice oa out.length oc) (some (I j)) none none).run Tryz.prog w'= .ok (.slice s2 (out.length - j) c2) w'):=hs2
                have HA1:Hid (At wc s1 (flat Mk.cells (out.take j))):=hA1
                have HA2:Hid (At wc s2 (flat Mk.cells (out.drop j))):=hA2
                have HZ1:Hid (s1=none->j=0):=fun e=>by have:=(zdy HR2.out).2 (hn1 e);omega
                have HZ2:Hid (s2=none->out.length - j=0):=fun e=>by have:=(zdy HR2.out).2 (hn2 e);omega
                have HL1:Hid ((flat Mk.cells (out.take j)).length=j*11):=by show _=_;rw [zfr,List.length_take,Nat.min_eq_left hj]
                have HL2:Hid ((flat Mk.cells (out.drop j)).length=(out.length - j)*11):=by show _=_;rw [zfr,List.length_drop]
                have n1:0+j<=maxLen:=by unfold maxLen;omega
                have n2:(0+j)*104<=140737488355328:=by omega
                have n3:0+j+1<=maxLen:=by unfold maxLen;omega
                have n4:(0+j+1)*104<=140737488355328:=by omega
                have n5:0+j+1+(out.length - j)<=maxLen:=by unfold maxLen;omega
                have n6:(0+j+1+(out.length - j))*104<=140737488355328:=by omega
                have hz2:w.heap.size<=wc.heap.size:=HB2.out.size
                have HONE:Hid (∀u∈k.cells,u.oneCell'=true):=fun u hu=>zc3 [k] u (by simpa [flat] using hu)
                clear hs1 hs2 hA1 hA2 hn1 hn2
                go_wp2_with (first
                  | (refine zca rfl _ _ _ _ rfl (.slice oa out.length oc) _ none (some (I j)) rfl rfl rfl (HS1.out _) ?_)
                  | (refine zca rfl _ _ _ _ rfl (.slice oa out.length oc) _ (some (I j)) none rfl rfl rfl (HS2.out _) ?_)
                  | (at_builtin;refine za5 rfl _ _ _ rfl wc.heap.size 259 i1 mkZ 11 104 Tryz.underlying222 HI1.out.1 HI1.out.2.1 HI1.out.2.2.1 HI1.out.2.2.2 rfl (by decide) (.slice none 0 0) 0 [] rfl ⟨rfl, .inl ⟨rfl,rfl⟩⟩ s1 j c1 (flat Mk.cells (out.take j)) rfl HL1.out HZ1.out HA1.out.addw (zc3 _) n1 n2 (Nat.le_refl _) ?_;intro v5 w5 hown5 hgrow5;have HO5:Hid (w5.ownsRow wc.heap.size 259 11 v5 (0+j) ([]++flat Mk.cells (out.take j))):=hown5;have HW5:Hid (Below wc.heap.size wc w5):=(Below.refl _ _).grown hgrow5 (Nat.le_refl _) (fun b e=>by cases e);have hz5:wc.heap.size<=w5.heap.size:=HW5.out.size;have HBw5:Hid (Below w.heap.size w w5):=HB2.out.trans (HW5.out.mono hz2);have g0:w5.cell? ⟨p,q+i*11,none⟩=some (I k.m.e.op):=HCL.out _ HBw5.out 0 _ rfl;have g1:w5.cell? ⟨p,q+i*11+1,none⟩=some (I k.m.e.ob):=HCL.out _ HBw5.out 1 _ rfl;have g2:w5.cell? ⟨p,q+i*11+2,none⟩=some (I k.m.e.va):=HCL.out _ HBw5.out 2 _ rfl;have g3:w5.cell? ⟨p,q+i*11+3,none⟩=some (I k.m.e.ref.o):=HCL.out _ HBw5.out 3 _ rfl;have g4:w5.cell? ⟨p,q+i*11+4,none⟩=some (I k.m.e.ref.s):=HCL.out _ HBw5.out 4 _ rfl;have g5:w5.cell? ⟨p,q+i*11+5,none⟩=some (I k.m.e.ref.i):=HCL.out _ HBw5.out 5 _ rfl;have g6:w5.cell? ⟨p,q+i*11+6,none⟩=some (.slice k.m.da k.m.e.dots.length k.m.dc):=HCL.out _ HBw5.out 6 _ rfl;have g7:w5.cell? ⟨p,q+i*11+7,none⟩=some (I k.d.o):=HCL.out _ HBw5.out 7 _ rfl;have g8:w5.cell? ⟨p,q+i*11+8,none⟩=some (I k.d.s):=HCL.out _ HBw5.out 8 _ rfl;have g9:w5.cell? ⟨p,q+i*11+9,none⟩=some (I k.d.i):=HCL.out _ HBw5.out 9 _ rfl;have g10:w5.cell? ⟨p,q+i*11+10,none⟩=some (I k.t):=HCL.out _ HBw5.out 10 _ rfl;clear hown5 hgrow5)
                  | (at_builtin;refine wpList_append_own_at _ rfl _ _ _ rfl wc.heap.size 259 i1 mkZ 11 104 Tryz.underlying222 HI1.out.1 HI1.out.2.1 HI1.out.2.2.1 HI1.out.2.2.2 rfl (by decide) v5 (0+j) ([]++flat Mk.cells (out.take j)) rfl (HO5.out.alloc _) ⟨w5.heap.size,0,none⟩ 1 1 k.cells rfl rfl (zas w5 k.cells _) HONE.out n3 n4 (by simp;omega) ?_;intro v6 w6 hown6 hgrow6 hnil6 hat6;have HO6:Hid (w6.ownsRow wc.heap.size 259 11 v6 (0+j+1) ([]++flat Mk.cells (out.take j)++k.cells)):=hown6;have HW6:Hid (Below wc.heap.size wc w6):=(HW5.out.alloc hz5 _).grown hgrow6 (by simp;omega) (fun b e=>(HO5.out.lt b e).1);have hz6:wc.heap.size<=w6.heap.size:=HW6.out.size;clear hown6 hgrow6 hnil6 hat6 g0 g1 g2 g3 g4 g5 g6 g7 g8 g9 g10)
                  | (at_builtin;refine za5 rfl _ _ _ rfl wc.heap.size 259 i1 mkZ 11 104 Tryz.underlying222 HI1.out.1 HI1.out.2.1 HI1.out.2.2.1 HI1.out.2.2.2 rfl (by decide) v6 (0+j+1) ([]++flat Mk.cells (out.take j)++k.cells) rfl HO6.out s2 (out.length - j) c2 (flat Mk.cells (out.drop j)) rfl HL2.out HZ2.out (HA2.out.kept HW6.out).addw (zc3 _) n5 n6 hz6 ?_;intro v7 w7 hown7 hgrow7;have HO7:Hid (w7.ownsRow wc.heap.size 259 11 v7 (0+j+1+(out.length - j)) ([]++flat Mk.cells (out.take j)++k.cells++flat Mk.cells (out.drop j))):=hown7;have HW7:Hid (Below wc.heap.size wc w7):=HW6.out.grown hgrow7 hz6 (fun b e=>(HO6.out.lt b e).1);obtain⟨oa7,oc7,rfl⟩:=zar hown7;clear hown7 hgrow7))
                have HIN:Hid (insK (fun x=>Wv.lessD x.d k.d) out k=insAt out j k):=by show _=_;unfold insK;rw [HTW.out]
                have hlen:(insAt out j k).length=0+j+1+(out.length - j):=by unfold insAt;simp;omega
                have HE:Hid (w7.ownsRow w.heap.size 259 11 (.slice oa7 (insAt out j k).length oc7) (insAt out j k).length (flat Mk.cells (insAt out j k))):=by
                  show World.ownsRow _ _ _ _ _ _ _
                  rw [hlen]
                  refine zbr ?_ hz2
                  have:=HO7.out
                  unfold insAt
                  rw [zbw]
                  simpa [flat] using this
                have HBE:Hid (Below w.heap.size w w7):=HB2.out.trans (HW7.out.mono hz2)
                have HN3:Hid (insAt out j k=(ks.take (i+1)).foldl (za7 ks mk en) []):=by show _=_;rw [HN2.out,HIN.out]
                exact⟨⟨i+1,oa7,oc7,insAt out j k,by omega,by go_num,by rw [hlen,Nat.zero_add],HN3,HE,HBE⟩,by simp [intOf];omega⟩
      · have hopb:(k.m.e.op !=mk)=true:=by simp [hop]
        have HN2:Hid (out=(ks.take (i+1)).foldl (za7 ks mk en) []):=by show _=_;rw [HSU.out];unfold za7;rw [if_neg (fun h=>hop h.1)]
        clear HSU HO HCL
        go_wp2_with fail
        go_roundw
        case rel=>exact⟨i+1,oa,oc,out,by omega,by go_num,rfl,HN2,HR1,HB1⟩
        case measure=>simp [intOf];omega
    · have hii:¬(i:Int)<ks.length:=by omega
      have HE:Hid (out=livK ks mk en):=by have:=HO.out;rw [List.take_of_length_le (by omega)] at this;exact this
      clear HO
      go_wp2
      go_ret
      exact⟨_,rfl,by rw [←HE.out];exact HR.out,HB.out⟩
def za4(d:Wv.Dt)(out:List Mk)(k:Mk):List Mk:=if k.m.e.op=5∧eqD k.m.e.ref d=true then insK (fun x=>zam x k) out k else out
def chK(ks:List Mk)(d:Wv.Dt):List Mk:=ks.foldl (za4 d) []
def treeK(ks:List Mk):Nat->Wv.Dt->List Mk
 | 0,_=> []
 | n+1,d=>(chK ks d).flatMap (fun c=>c::treeK ks n c.d)
def zau(ks:List Mk):List Mk:=(treeK ks (ks.length+1) ⟨0,0,0⟩).filter (fun k=> !goneK ks 6 k.d)
theorem zr7(d:Wv.Dt)(l:List Mk):(l.foldl (za4 d) []).length<=l.length:=by
 suffices h:∀(l:List Mk) (o:List Mk),(l.foldl (za4 d) o).length<=o.length+l.length by simpa using h l []
 intro l
 induction l with
 | nil=>intro o;simp
 | cons k l ih=>
  intro o
  rw [List.foldl_cons]
  have h1:=ih (za4 d o k)
  have h2:(za4 d o k).length<=o.length+1:=by
   unfold za4
   split
   ·rw [znn];omega
   ·omega
  simp only [List.length_cons]
  omega
theorem zzg(d:Wv.Dt)(l:List Mk)(x:Mk):x∈l.foldl (za4 d) []->x∈l:=by
 suffices h:∀(l:List Mk) (o:List Mk),x∈l.foldl (za4 d) o->x∈o∨x∈l by
  intro hx
  rcases h l [] hx with a | a
  ·cases a
  ·exact a
 intro l
 induction l with
 | nil=>intro o h;exact .inl h
 | cons k l ih=>
  intro o h
  rw [List.foldl_cons] at h
  rcases ih _ h with a | a
  ·unfold za4 at a
   split at a
   ·rw [zi3] at a
    rcases a with rfl | a
    ·exact .inr (by simp)
    ·exact .inl a
   ·exact .inl a
  ·exact .inr (by simp [a])
theorem zr6{ks:List Mk}{d:Wv.Dt}{x:Mk}(h:x∈chK ks d):x∈ks:=zzg d ks x h
theorem zd0{α β:Type}(f:α->List β)(l:List α)(i:Nat)(hi:i<l.length):(l.take (i+1)).flatMap f=(l.take i).flatMap f++f l[i]:=by
 rw [List.take_succ_eq_append_getElem hi,List.flatMap_append]
 simp
theorem ze5{α β:Type}(f:α->List β)(l:List α)(i:Nat):((l.take i).flatMap f).length<=(l.flatMap f).length:=by
 have:l.flatMap f=(l.take i).flatMap f++(l.drop i).flatMap f:=by rw [←List.flatMap_append,List.take_append_drop]
 rw [this,List.length_append]
 omega
def zyd(ks:List Mk)(a:Option Addr)(c n:Nat):Prop:=∀(d:Wv.Dt) (w:World) (_:MksAt w a ks) (_:(treeK ks n d).length<=1048576) (_:n<=1048577),
  Calls Tryz.prog 197 #[.slice a ks.length c,dotV d,I n] w fun e w'=>∃v',e= .returned v'∧w'.ownsRow w.heap.size 259 11 v' (treeK ks n d).length (flat Mk.cells (treeK ks n d))∧Below w.heap.size w w'
theorem zvh(ks:List Mk)(a:Option Addr)(c:Nat)(hl:ks.length<=1048576)(n:Nat):zyd ks a c n:=by
  induction n with
  | zero=>
    intro d w h hT _
    have HB0:Hid (Below w.heap.size w (w.alloc (.cells #[I d.o,I d.s,I d.i] 146))):=(Below.refl _ _).alloc (Nat.le_refl _) _
    clear h hT
    go_enter Tryz.func197,Tryz.ntmps197
    go_wp2
    go_ret
    exact⟨_,rfl,⟨rfl, .inl ⟨rfl,rfl⟩⟩,HB0.out⟩
  | succ n ih=>
    intro d w h hT hn
    obtain⟨wA,hwA⟩:∃wA,wA=w.alloc (.cells #[I d.o,I d.s,I d.i] 146):=⟨_,rfl⟩
    have HB0:Hid (Below w.heap.size w wA):=by rw [hwA];exact(Below.refl _ _).alloc (Nat.le_refl _) _
    have HX:Hid (Blk wA w.heap.size #[I d.o,I d.s,I d.i] 146):=by rw [hwA];exact heap_alloc_new w _
    have HM:Hid (MksAt wA a ks):=h.kept HB0.out
    have HIH:Hid (zyd ks a c n):=ih
    have HT:Hid ((treeK ks (n+1) d).length<=1048576):=hT
    obtain⟨i1,HI1⟩:∃i,Hid (Tryz.prog.info? 259=some i∧i.zero=some mkZ∧i.size=11∧i.bytes=104):=by obtain⟨i,h⟩:=info_parts zg7;exact⟨i,h⟩
    clear h hT ih
    have hn0:¬((n:Int)+1=0):=by omega
    go_enter Tryz.func197,Tryz.ntmps197
    rw [show((n+1:Nat):Int)=(n:Int)+1 by omega]
    go_wp2_with fail
    rw [←hwA]
    clear hwA
    go_loopw [8,9] (fun y x wr=>∃(i:Nat) (oa:Option Addr) (oc:Nat) (out:List Mk),i<=ks.length∧x=I i∧y= .slice oa out.length oc∧Hid (out=(ks.take i).foldl (za4 d) [])∧Hid (wr.ownsRow wA.heap.size 259 11 (.slice oa out.length oc) out.length (flat Mk.cells out))∧Hid (Below wA.heap.size wA wr)) (fun _ x _=>ks.length - (intOf x).toNat)
    case atStart=>exact⟨0,none,0, [],by omega,rfl,rfl,rfl,⟨rfl, .inl ⟨rfl,rfl⟩⟩,Below.refl _ _⟩
    case round=>
      obtain⟨i,oa,oc,out,hi,rfl,rfl,HO,HR1,HB1⟩:=hrel
      by_cases hlt:i<ks.length
      · have hii : (i:Int)<ks.length:=by omega
        obtain⟨p,q,rfl,hc⟩:=zbh HM.out.row (by omega)
        have e0:wr.cell? ⟨p,q+i*11,none⟩=some (I ks[i].m.e.op):=zaa HB1.out (hc i hlt 0 _ rfl)
        have e3:wr.cell? ⟨p,q+i*11+3,none⟩=some (I ks[i].m.e.ref.o):=zaa HB1.out (hc i hlt 3 _ rfl)
        have e4:wr.cell? ⟨p,q+i*11+3+1,none⟩=some (I ks[i].m.e.ref.s):=zaa HB1.out (hc i hlt 4 _ rfl)
        have e5:wr.cell? ⟨p,q+i*11+3+2,none⟩=some (I ks[i].m.e.ref.i):=zaa HB1.out (hc i hlt 5 _ rfl)
        have x0:wr.cell? ⟨w.heap.size,0,none⟩=some (I d.o):=(HX.out.kept HB1.out HX.out.lt).cell 0
        have x1:wr.cell? ⟨w.heap.size,1,none⟩=some (I d.s):=(HX.out.kept HB1.out HX.out.lt).cell 1
        have x2:wr.cell? ⟨w.heap.size,2,none⟩=some (I d.i):=(HX.out.kept HB1.out HX.out.lt).cell 2
        have HCL:Hid (∀w',Below wA.heap.size wA w'->∀j u,ks[i].cells[j]?=some u->w'.cell? ⟨p,q+i*11+j,none⟩=some u):=fun w' hb j u hu=>zaa hb (hc i hlt j u hu)
        have HSU:Hid ((ks.take (i+1)).foldl (za4 d) []=za4 d out ks[i]):=by show _=_;rw [zck _ _ _ _ hlt,HO.out]
        have HOL:Hid (out.length<=i):=by show _<=_;rw [HO.out];have:=zr7 d (ks.take i);rw [List.length_take] at this;omega
        clear hc
        generalize ks[i]=k at *
        by_cases hop:k.m.e.op=5
        · have hopb:(k.m.e.op !=5)=false:=by simp [hop]
          have hq1:∀w',(binOp .neq 146 (.agg #[I k.m.e.ref.o,I k.m.e.ref.s,I k.m.e.ref.i]) (.agg #[I d.o,I d.s,I d.i])).run Tryz.prog w'= .ok (.bool (!eqD k.m.e.ref d)) w':=fun w'=>zbo _ _ _ _ _ _ w'
          cases hrf:eqD k.m.e.ref d with
          | false=>
            have HN2:Hid (out=(ks.take (i+1)).foldl (za4 d) []):=by show _=_;rw [HSU.out];unfold za4;rw [if_neg (by rw [hrf];simp)]
            rw [hrf,Bool.not_false] at hq1
            clear HSU HO HCL
            go_wp2_with fail
            go_quiet (fail)
            go_wp2_with fail
            go_roundw
            case rel=>exact⟨i+1,oa,oc,out,by omega,by go_num,rfl,HN2,za6 HR1.out (zal (Below.refl _ _) nq),zal HB1.out nq⟩
            case measure=>simp [intOf];omega
          | true=>
            have HN2:Hid ((ks.take (i+1)).foldl (za4 d) []=insK (fun x=>zam x k) out k):=by show _=_;rw [HSU.out];unfold za4;rw [if_pos ⟨hop,hrf⟩]
            rw [hrf,Bool.not_true] at hq1
            clear HSU HO
            go_wp2_with fail
            go_quiet (fail)
            go_wp2_with fail
            go_loopw [10] (fun x wx=>∃j:Nat,j<=out.length∧x=I j∧Hid (∀n (hn:n<out.length),n<j->zam out[n] k=true)∧Hid (wx.ownsRow wA.heap.size 259 11 (.slice oa out.length oc) out.length (flat Mk.cells out))∧Hid (Below wA.heap.size wA wx)) (fun x _=>out.length - (intOf x).toNat)
            case atStart=>exact⟨0,by omega,rfl,fun n _ h=>absurd h (by omega),za6 HR1.out (zal (Below.refl _ _) nq),zal HB1.out nq⟩
            case round=>
              obtain⟨j,hj,rfl,HJ,HRj,HBj⟩:=hrel
              clear e0 e3 e4 e5 x0 x1 x2 hq1 HR1 HB1 hop hopb hrf
              go_upto_region 10 with fail
              go_cut [54] (fun v w'=>∃b:Bool,v= .bool b∧Hid (b=if hn:j<out.length then zam out[j] k else false)∧Hid (w'.ownsRow wA.heap.size 259 11 (.slice oa out.length oc) out.length (flat Mk.cells out))∧Hid (Below wA.heap.size wA w'))
              case first=>
                by_cases hjt:j<out.length
                · have hjj:(j:Int)<out.length:=by omega
                  obtain⟨p2,q2,rfl,hc2⟩:=zbh (zaw HRj.out) (by omega)
                  have x0:wr.cell? ⟨p2,q2+j*11,none⟩=some (I out[j].m.e.op):=hc2 j hjt 0 _ rfl
                  have x1:wr.cell? ⟨p2,q2+j*11+1,none⟩=some (I out[j].m.e.ob):=hc2 j hjt 1 _ rfl
                  have x2:wr.cell? ⟨p2,q2+j*11+2,none⟩=some (I out[j].m.e.va):=hc2 j hjt 2 _ rfl
                  have x3:wr.cell? ⟨p2,q2+j*11+3,none⟩=some (I out[j].m.e.ref.o):=hc2 j hjt 3 _ rfl
                  have x4:wr.cell? ⟨p2,q2+j*11+4,none⟩=some (I out[j].m.e.ref.s):=hc2 j hjt 4 _ rfl
                  have x5:wr.cell? ⟨p2,q2+j*11+5,none⟩=some (I out[j].m.e.ref.i):=hc2 j hjt 5 _ rfl
                  have x6:wr.cell? ⟨p2,q2+j*11+6,none⟩=some (.slice out[j].m.da out[j].m.e.dots.length out[j].m.dc):=hc2 j hjt 6 _ rfl
                  have x7:wr.cell? ⟨p2,q2+j*11+7,none⟩=some (I out[j].d.o):=hc2 j hjt 7 _ rfl
                  have x8:wr.cell? ⟨p2,q2+j*11+8,none⟩=some (I out[j].d.s):=hc2 j hjt 8 _ rfl
                  have x9:wr.cell? ⟨p2,q2+j*11+9,none⟩=some (I out[j].d.i):=hc2 j hjt 9 _ rfl
                  have x10:wr.cell? ⟨p2,q2+j*11+10,none⟩=some (I out[j].t):=hc2 j hjt 10 _ rfl
                  have y0:wr.cell? ⟨p,q+i*11,none⟩=some (I k.m.e.op):=HCL.out wr HBj.out 0 _ rfl
                  have y1:wr.cell? ⟨p,q+i*11+1,none⟩=some (I k.m.e.ob):=HCL.out wr HBj.out 1 _ rfl
                  have y2:wr.cell? ⟨p,q+i*11+2,none⟩=some (I k.m.e.va):=HCL.out wr HBj.out 2 _ rfl
                  have y3:wr.cell? ⟨p,q+i*11+3,none⟩=some (I k.m.e.ref.o):=HCL.out wr HBj.out 3 _ rfl
                  have y4:wr.cell? ⟨p,q+i*11+4,none⟩=some (I k.m.e.ref.s):=HCL.out wr HBj.out 4 _ rfl
                  have y5:wr.cell? ⟨p,q+i*11+5,none⟩=some (I k.m.e.ref.i):=HCL.out wr HBj.out 5 _ rfl
                  have y6:wr.cell? ⟨p,q+i*11+6,none⟩=some (.slice k.m.da k.m.e.dots.length k.m.dc):=HCL.out wr HBj.out 6 _ rfl
                  have y7:wr.cell? ⟨p,q+i*11+7,none⟩=some (I k.d.o):=HCL.out wr HBj.out 7 _ rfl
                  have y8:wr.cell? ⟨p,q+i*11+8,none⟩=some (I k.d.s):=HCL.out wr HBj.out 8 _ rfl
                  have y9:wr.cell? ⟨p,q+i*11+9,none⟩=some (I k.d.i):=HCL.out wr HBj.out 9 _ rfl
                  have y10:wr.cell? ⟨p,q+i*11+10,none⟩=some (I k.t):=HCL.out wr HBj.out 10 _ rfl
                  have HLB:Hid ((if hn:j<out.length then zam out[j] k else false)=zam out[j] k):=dif_pos hjt
                  clear hc2
                  generalize out[j]=kj at *
                  go_region_held3 (fun w'=>w'.cell? ⟨p2,q2+j*11,none⟩=some (I kj.m.e.op)∧w'.cell? ⟨p2,q2+j*11+1,none⟩=some (I kj.m.e.ob)∧w'.cell? ⟨p2,q2+j*11+2,none⟩=some (I kj.m.e.va)∧w'.cell? ⟨p2,q2+j*11+3,none⟩=some (I kj.m.e.ref.o)∧w'.cell? ⟨p2,q2+j*11+4,none⟩=some (I kj.m.e.ref.s)∧w'.cell? ⟨p2,q2+j*11+5,none⟩=some (I kj.m.e.ref.i)∧w'.cell? ⟨p2,q2+j*11+6,none⟩=some (.slice kj.m.da kj.m.e.dots.length kj.m.dc)∧w'.cell? ⟨p2,q2+j*11+7,none⟩=some (I kj.d.o)∧w'.cell? ⟨p2,q2+j*11+8,none⟩=some (I kj.d.s)∧w'.cell? ⟨p2,q2+j*11+9,none⟩=some (I kj.d.i)∧w'.cell? ⟨p2,q2+j*11+10,none⟩=some (I kj.t)∧w'.cell? ⟨p,q+i*11,none⟩=some (I k.m.e.op)∧w'.cell? ⟨p,q+i*11+1,none⟩=some (I k.m.e.ob)∧w'.cell? ⟨p,q+i*11+2,none⟩=some (I k.m.e.va)∧w'.cell? ⟨p,q+i*11+3,none⟩=some (I k.m.e.ref.o)∧w'.cell? ⟨p,q+i*11+4,none⟩=some (I k.m.e.ref.s)∧w'.cell? ⟨p,q+i*11+5,none⟩=some (I k.m.e.ref.i)∧w'.cell? ⟨p,q+i*11+6,none⟩=some (.slice k.m.da k.m.e.dots.length k.m.dc)∧w'.cell? ⟨p,q+i*11+7,none⟩=some (I k.d.o)∧w'.cell? ⟨p,q+i*11+8,none⟩=some (I k.d.s)∧w'.cell? ⟨p,q+i*11+9,none⟩=some (I k.d.i)∧w'.cell? ⟨p,q+i*11+10,none⟩=some (I k.t)) (first | go_keep | (refine⟨zaa hb0 ?_,zaa hb0 ?_,zaa hb0 ?_,zaa hb0 ?_,zaa hb0 ?_,zaa hb0 ?_,zaa hb0 ?_,zaa hb0 ?_,zaa hb0 ?_,zaa hb0 ?_,zaa hb0 ?_,zaa hb0 ?_,zaa hb0 ?_,zaa hb0 ?_,zaa hb0 ?_,zaa hb0 ?_,zaa hb0 ?_,zaa hb0 ?_,zaa hb0 ?_,zaa hb0 ?_,zaa hb0 ?_,zaa hb0 ?_⟩<;>go_keep))
                    (first | (go_at_call 211;refine(zyv kj k _).mono ?_;rintro e w3 ⟨rfl,hb0⟩))
                  have HBf:Hid (Below wA.heap.size wA w3):=HBj.out.trans (((Below.refl _ _).drew.trans hb0).mono HBj.out.size)
                  have HRf:Hid (w3.ownsRow wA.heap.size 259 11 (.slice (some ⟨p2,q2,none⟩) out.length oc) out.length (flat Mk.cells out)):=za6 HRj.out ((Below.refl _ _).drew.trans hb0)
                  clear hb0
                  go_wp2_with fail
                  go_meet
                  exact⟨_,rfl,HLB.out.symm,HRf,HBf⟩
                · have hjj:¬(j:Int)<out.length:=by omega
                  go_quiet (fail)
                  go_wp2_with fail
                  go_meet
                  exact⟨false,rfl,(by show _=_;rw [dif_neg hjt]),za6 HRj.out (zal (Below.refl _ _) nq),zal HBj.out nq⟩
              case rest=>
                obtain⟨b,rfl,HBB,HR2,HB2⟩:=hcut
                clear HRj HBj
                have hol:out.length<=i:=HOL.out
                cases b with
                | true=>
                  have hjt:j<out.length:=by
                    by_cases hjt:j<out.length
                    · exact hjt
                    · have:=HBB.out;rw [dif_neg hjt] at this;cases this
                  have HLS:Hid (zam out[j] k=true):=by have:=HBB.out;rw [dif_pos hjt] at this;exact this.symm
                  go_wp2_with fail
                  go_roundw
                  case rel=>
                    refine⟨j+1,by omega,by go_num,fun n hn h1=> ?_,HR2,HB2⟩
                    by_cases hnj:n=j
                    · subst hnj;exact HLS.out
                    · exact HJ.out n hn (by omega)
                  case measure=>simp [intOf];omega
                | false=>
                  have HTW:Hid ((out.takeWhile (fun x=>zam x k)).length=j):=zc1 _ out j hj (fun n hn h1=>HJ.out n hn h1) (fun hn=>by have:=HBB.out;rw [dif_pos hn] at this;exact this.symm)
                  have hoc:out.length<=oc:=(zdy HR2.out).1
                  obtain⟨s1,c1,hs1,hA1,hn1⟩:=zrx (zaw HR2.out) hj hoc
                  obtain⟨s2,c2,hs2,hA2,hn2⟩:=zrw (zaw HR2.out) hj hoc
                  have HS1:Hid (∀w',(Instr.sliceAt 222 (.slice oa out.length oc) none (some (I j)) none).run Tryz.prog w'= .ok (.slice s1 j c1) w'):=hs1
                  have HS2:Hid (∀w',(Instr.sliceAt 222 (.slice oa out.length oc) (some (I j)) none none).run Tryz.prog w'= .ok (.slice s2 (out.length - j) c2) w'):=hs2
                  have HA1:Hid (At wc s1 (flat Mk.cells (out.take j))):=hA1
                  have HA2:Hid (At wc s2 (flat Mk.cells (out.drop j))):=hA2
                  have HZ1:Hid (s1=none->j=0):=fun e=>by have:=(zdy HR2.out).2 (hn1 e);omega
                  have HZ2:Hid (s2=none->out.length - j=0):=fun e=>by have:=(zdy HR2.out).2 (hn2 e);omega
                  have HL1:Hid ((flat Mk.cells (out.take j)).length=j*11):=by show _=_;rw [zfr,List.length_take,Nat.min_eq_left hj]
                  have HL2:Hid ((flat Mk.cells (out.drop j)).length=(out.length - j)*11):=by show _=_;rw [zfr,List.length_drop]
                  have n1:0+j<=maxLen:=by unfold maxLen;omega
                  have n2:(0+j)*104<=140737488355328:=by omega
                  have n3:0+j+1<=maxLen:=by unfold maxLen;omega
                  have n4:(0+j+1)*104<=140737488355328:=by omega
                  have n5:0+j+1+(out.length - j)<=maxLen:=by unfold maxLen;omega
                  have n6:(0+j+1+(out.length - j))*104<=140737488355328:=by omega
                  have hz2:wA.heap.size<=wc.heap.size:=HB2.out.size
                  have HONE:Hid (∀u∈k.cells,u.oneCell'=true):=fun u hu=>zc3 [k] u (by simpa [flat] using hu)
                  clear hs1 hs2 hA1 hA2 hn1 hn2
                  go_wp2_with (first
                    | (refine zca rfl _ _ _ _ rfl (.slice oa out.length oc) _ none (some (I j)) rfl rfl rfl (HS1.out _) ?_)
                    | (refine zca rfl _ _ _ _ rfl (.slice oa out.length oc) _ (some (I j)) none rfl rfl rfl (HS2.out _) ?_)
                    | (at_builtin;refine za5 rfl _ _ _ rfl wc.heap.size 259 i1 mkZ 11 104 Tryz.underlying222 HI1.out.1 HI1.out.2.1 HI1.out.2.2.1 HI1.out.2.2.2 rfl (by decide) (.slice none 0 0) 0 [] rfl ⟨rfl, .inl ⟨rfl,rfl⟩⟩ s1 j c1 (flat Mk.cells (out.take j)) rfl HL1.out HZ1.out HA1.out.addw (zc3 _) n1 n2 (Nat.le_refl _) ?_;intro v5 w5 hown5 hgrow5;have HO5:Hid (w5.ownsRow wc.heap.size 259 11 v5 (0+j) ([]++flat Mk.cells (out.take j))):=hown5;have HW5:Hid (Below wc.heap.size wc w5):=(Below.refl _ _).grown hgrow5 (Nat.le_refl _) (fun b e=>by cases e);have hz5:wc.heap.size<=w5.heap.size:=HW5.out.size;have HBw5:Hid (Below wA.heap.size wA w5):=HB2.out.trans (HW5.out.mono hz2);have g0:w5.cell? ⟨p,q+i*11,none⟩=some (I k.m.e.op):=HCL.out _ HBw5.out 0 _ rfl;have g1:w5.cell? ⟨p,q+i*11+1,none⟩=some (I k.m.e.ob):=HCL.out _ HBw5.out 1 _ rfl;have g2:w5.cell? ⟨p,q+i*11+2,none⟩=some (I k.m.e.va):=HCL.out _ HBw5.out 2 _ rfl;have g3:w5.cell? ⟨p,q+i*11+3,none⟩=some (I k.m.e.ref.o):=HCL.out _ HBw5.out 3 _ rfl;have g4:w5.cell? ⟨p,q+i*11+4,none⟩=some (I k.m.e.ref.s):=HCL.out _ HBw5.out 4 _ rfl;have g5:w5.cell? ⟨p,q+i*11+5,none⟩=some (I k.m.e.ref.i):=HCL.out _ HBw5.out 5 _ rfl;have g6:w5.cell? ⟨p,q+i*11+6,none⟩=some (.slice k.m.da k.m.e.dots.length k.m.dc):=HCL.out _ HBw5.out 6 _ rfl;have g7:w5.cell? ⟨p,q+i*11+7,none⟩=some (I k.d.o):=HCL.out _ HBw5.out 7 _ rfl;have g8:w5.cell? ⟨p,q+i*11+8,none⟩=some (I k.d.s):=HCL.out _ HBw5.out 8 _ rfl;have g9:w5.cell? ⟨p,q+i*11+9,none⟩=some (I k.d.i):=HCL.out _ HBw5.out 9 _ rfl;have g10:w5.cell? ⟨p,q+i*11+10,none⟩=some (I k.t):=HCL.out _ HBw5.out 10 _ rfl;clear hown5 hgrow5)
                    | (at_builtin;refine wpList_append_own_at _ rfl _ _ _ rfl wc.heap.size 259 i1 mkZ 11 104 Tryz.underlying222 HI1.out.1 HI1.out.2.1 HI1.out.2.2.1 HI1.out.2.2.2 rfl (by decide) v5 (0+j) ([]++flat Mk.cells (out.take j)) rfl (HO5.out.alloc _) ⟨w5.heap.size,0,none⟩ 1 1 k.cells rfl rfl (zas w5 k.cells _) HONE.out n3 n4 (by simp;omega) ?_;intro v6 w6 hown6 hgrow6 hnil6 hat6;have HO6:Hid (w6.ownsRow wc.heap.size 259 11 v6 (0+j+1) ([]++flat Mk.cells (out.take j)++k.cells)):=hown6;have HW6:Hid (Below wc.heap.size wc w6):=(HW5.out.alloc hz5 _).grown hgrow6 (by simp;omega) (fun b e=>(HO5.out.lt b e).1);have hz6:wc.heap.size<=w6.heap.size:=HW6.out.size;clear hown6 hgrow6 hnil6 hat6 g0 g1 g2 g3 g4 g5 g6 g7 g8 g9 g10)
                    | (at_builtin;refine za5 rfl _ _ _ rfl wc.heap.size 259 i1 mkZ 11 104 Tryz.underlying222 HI1.out.1 HI1.out.2.1 HI1.out.2.2.1 HI1.out.2.2.2 rfl (by decide) v6 (0+j+1) ([]++flat Mk.cells (out.take j)++k.cells) rfl HO6.out s2 (out.length - j) c2 (flat Mk.cells (out.drop j)) rfl HL2.out HZ2.out (HA2.out.kept HW6.out).addw (zc3 _) n5 n6 hz6 ?_;intro v7 w7 hown7 hgrow7;have HO7:Hid (w7.ownsRow wc.heap.size 259 11 v7 (0+j+1+(out.length - j)) ([]++flat Mk.cells (out.take j)++k.cells++flat Mk.cells (out.drop j))):=hown7;have HW7:Hid (Below wc.heap.size wc w7):=HW6.out.grown hgrow7 hz6 (fun b e=>(HO6.out.lt b e).1);obtain⟨oa7,oc7,rfl⟩:=zar hown7;clear hown7 hgrow7))
                  have HIN:Hid (insK (fun x=>zam x k) out k=insAt out j k):=by show _=_;unfold insK;rw [HTW.out]
                  have hlen:(insAt out j k).length=0+j+1+(out.length - j):=by unfold insAt;simp;omega
                  have HE:Hid (w7.ownsRow wA.heap.size 259 11 (.slice oa7 (insAt out j k).length oc7) (insAt out j k).length (flat Mk.cells (insAt out j k))):=by
                    show World.ownsRow _ _ _ _ _ _ _
                    rw [hlen]
                    refine zbr ?_ hz2
                    have:=HO7.out
                    unfold insAt
                    rw [zbw]
                    simpa [flat] using this
                  have HBE:Hid (Below wA.heap.size wA w7):=HB2.out.trans (HW7.out.mono hz2)
                  have HN3:Hid (insAt out j k=(ks.take (i+1)).foldl (za4 d) []):=by show _=_;rw [HN2.out,HIN.out]
                  refine⟨?mm, ?ms⟩
                  case mm=>
                    (repeat apply Exists.intro)
                    refine⟨⟨i+1,oa7,oc7,insAt out j k,by omega,by go_num,by rw [hlen,Nat.zero_add],HN3,HE,HBE⟩,rfl⟩
                  case ms=>simp [intOf];omega
        · have hopb:(k.m.e.op !=5)=true:=by simp [hop]
          have HN2:Hid (out=(ks.take (i+1)).foldl (za4 d) []):=by show _=_;rw [HSU.out];unfold za4;rw [if_neg (fun h=>hop h.1)]
          clear HSU HO HCL
          go_wp2_with fail
          go_quiet (fail)
          go_wp2_with fail
          go_roundw
          case rel=>exact⟨i+1,oa,oc,out,by omega,by go_num,rfl,HN2,za6 HR1.out (zal (Below.refl _ _) nq),zal HB1.out nq⟩
          case measure=>simp [intOf];omega
      · have hii:¬(i:Int)<ks.length:=by omega
        have HE:Hid (out=chK ks d):=by have:=HO.out;rw [List.take_of_length_le (by omega)] at this;exact this
        clear HO
        have hol:out.length<=1048576:=by rw [HE.out];have:=zr7 d ks;unfold chK;omega
        generalize wr=wB at *
        have HTT:Hid (treeK ks (n+1) d=out.flatMap (fun c=>c::treeK ks n c.d)):=by show _=_;rw [HE.out];rfl
        go_wp2_with fail
        go_loopw [7,12] (fun y x wr=>∃(i:Nat) (oa2:Option Addr) (oc2:Nat) (acc:List Mk),i<=out.length∧x=I i∧y= .slice oa2 acc.length oc2∧Hid (acc=(out.take i).flatMap (fun c=>c::treeK ks n c.d))∧Hid (wr.ownsRow wB.heap.size 259 11 (.slice oa2 acc.length oc2) acc.length (flat Mk.cells acc))∧Hid (Below wB.heap.size wB wr)) (fun _ x _=>out.length - (intOf x).toNat)
        case atStart=>exact⟨0,none,0, [],by omega,rfl,rfl,rfl,⟨rfl, .inl ⟨rfl,rfl⟩⟩,Below.refl _ _⟩
        case round=>
          obtain⟨i,oa2,oc2,acc,hi2,rfl,rfl,HO,HR2,HB2⟩:=hrel
          by_cases hlt2:i<out.length
          · have hii2:(i:Int)<out.length:=by omega
            obtain⟨p,q,rfl,hc⟩:=zbh (zaw HR1.out) (by omega)
            have HCL:Hid (∀w',Below wB.heap.size wB w'->∀j u,out[i].cells[j]?=some u->w'.cell? ⟨p,q+i*11+j,none⟩=some u):=fun w' hb j u hu=>zaa hb (hc i hlt2 j u hu)
            have HSU:Hid ((out.take (i+1)).flatMap (fun c=>c::treeK ks n c.d)=acc++(out[i]::treeK ks n out[i].d)):=by show _=_;rw [zd0 _ _ _ hlt2,HO.out]
            have hbd:acc.length+(1+(treeK ks n out[i].d).length)<=1048576:=by
              have h1:=ze5 (fun c=>c::treeK ks n c.d) out (i+1)
              rw [HSU.out,←HTT.out] at h1
              have h2:=HT.out
              simp only [List.length_append,List.length_cons] at h1
              omega
            clear hc
            generalize out[i]=k at *
            have hA2:Below wA.heap.size wA wr:=HB1.out.trans (HB2.out.mono HB1.out.size)
            have HMr:Hid (∀w',Below wB.heap.size wB w'->MksAt w' a ks):=fun w' hb=>HM.out.kept (HB1.out.trans (hb.mono HB1.out.size))
            clear hA2
            have g0:wr.cell? ⟨p,q+i*11,none⟩=some (I k.m.e.op):=HCL.out _ HB2.out 0 _ rfl
            have g1:wr.cell? ⟨p,q+i*11+1,none⟩=some (I k.m.e.ob):=HCL.out _ HB2.out 1 _ rfl
            have g2:wr.cell? ⟨p,q+i*11+2,none⟩=some (I k.m.e.va):=HCL.out _ HB2.out 2 _ rfl
            have g3:wr.cell? ⟨p,q+i*11+3,none⟩=some (I k.m.e.ref.o):=HCL.out _ HB2.out 3 _ rfl
            have g4:wr.cell? ⟨p,q+i*11+4,none⟩=some (I k.m.e.ref.s):=HCL.out _ HB2.out 4 _ rfl
            have g5:wr.cell? ⟨p,q+i*11+5,none⟩=some (I k.m.e.ref.i):=HCL.out _ HB2.out 5 _ rfl
            have g6:wr.cell? ⟨p,q+i*11+6,none⟩=some (.slice k.m.da k.m.e.dots.length k.m.dc):=HCL.out _ HB2.out 6 _ rfl
            have g7:wr.cell? ⟨p,q+i*11+7,none⟩=some (I k.d.o):=HCL.out _ HB2.out 7 _ rfl
            have g8:wr.cell? ⟨p,q+i*11+8,none⟩=some (I k.d.s):=HCL.out _ HB2.out 8 _ rfl
            have g9:wr.cell? ⟨p,q+i*11+9,none⟩=some (I k.d.i):=HCL.out _ HB2.out 9 _ rfl
            have g10:wr.cell? ⟨p,q+i*11+10,none⟩=some (I k.t):=HCL.out _ HB2.out 10 _ rfl
            have n3:acc.length+1<=maxLen:=by unfold maxLen;omega
            have n4:(acc.length+1)*104<=140737488355328:=by omega
            have hz2:wB.heap.size<=wr.heap.size:=HB2.out.size
            have HONE:Hid (∀u∈k.cells,u.oneCell'=true):=fun u hu=>zc3 [k] u (by simpa [flat] using hu)
            have hn1:(n:Int)+1 - 1=n:=by omega
            go_wp2_with (first
              | (at_builtin;refine wpList_append_own_at _ rfl _ _ _ rfl wB.heap.size 259 i1 mkZ 11 104 Tryz.underlying222 HI1.out.1 HI1.out.2.1 HI1.out.2.2.1 HI1.out.2.2.2 rfl (by decide) (.slice oa2 acc.length oc2) acc.length (flat Mk.cells acc) rfl (HR2.out.alloc _) ⟨wr.heap.size,0,none⟩ 1 1 k.cells rfl rfl (zas wr k.cells _) HONE.out n3 n4 (by simp;omega) ?_;intro v6 w6 hown6 hgrow6 hnil6 hat6;have HO6:Hid (w6.ownsRow wB.heap.size 259 11 v6 (acc.length+1) (flat Mk.cells acc++k.cells)):=hown6;have HW6:Hid (Below wB.heap.size wB w6):=(HB2.out.alloc hz2 _).grown hgrow6 (by simp;omega) (fun b e=>(HR2.out.lt b e).1);have hz6:wB.heap.size<=w6.heap.size:=HW6.out.size;have f7:w6.cell? ⟨p,q+i*11+7,none⟩=some (I k.d.o):=HCL.out _ HW6.out 7 _ rfl;have f8:w6.cell? ⟨p,q+i*11+7+1,none⟩=some (I k.d.s):=HCL.out _ HW6.out 8 _ rfl;have f9:w6.cell? ⟨p,q+i*11+7+2,none⟩=some (I k.d.i):=HCL.out _ HW6.out 9 _ rfl;clear hown6 hgrow6 hnil6 hat6 g0 g1 g2 g3 g4 g5 g6 g7 g8 g9 g10))
            refine(HIH.out k.d w6 (HMr.out w6 HW6.out) (by omega) (by omega)).mono ?_
            rintro e w7 ⟨v7,rfl,hown7,hb7⟩
            obtain⟨a7,c7,rfl⟩:=zar hown7
            have HA7:Hid (At w7 a7 (flat Mk.cells (treeK ks n k.d))):=zaw hown7
            have HZ7:Hid (a7=none->(treeK ks n k.d).length=0):=(zdy hown7).2
            have HL7:Hid ((flat Mk.cells (treeK ks n k.d)).length=(treeK ks n k.d).length*11):=zfr _
            have HO7:Hid (w7.ownsRow wB.heap.size 259 11 v6 (acc.length+1) (flat Mk.cells acc++k.cells)):=za6 HO6.out hb7
            have HW7:Hid (Below wB.heap.size wB w7):=HW6.out.trans (hb7.mono hz6)
            have hz7:wB.heap.size<=w7.heap.size:=HW7.out.size
            have n5:acc.length+1+(treeK ks n k.d).length<=maxLen:=by unfold maxLen;omega
            have n6:(acc.length+1+(treeK ks n k.d).length)*104<=140737488355328:=by omega
            clear hown7 hb7 f7 f8 f9 HO6 HW6 HB2 HR2
            go_wp2_with (first
              | (at_builtin;refine za5 rfl _ _ _ rfl wB.heap.size 259 i1 mkZ 11 104 Tryz.underlying222 HI1.out.1 HI1.out.2.1 HI1.out.2.2.1 HI1.out.2.2.2 rfl (by decide) v6 (acc.length+1) (flat Mk.cells acc++k.cells) rfl HO7.out a7 (treeK ks n k.d).length c7 (flat Mk.cells (treeK ks n k.d)) rfl HL7.out HZ7.out HA7.out.addw (zc3 _) n5 n6 hz7 ?_;intro v8 w8 hown8 hgrow8;have HO8:Hid (w8.ownsRow wB.heap.size 259 11 v8 (acc.length+1+(treeK ks n k.d).length) (flat Mk.cells acc++k.cells++flat Mk.cells (treeK ks n k.d))):=hown8;have HW8:Hid (Below wB.heap.size wB w8):=HW7.out.grown hgrow8 hz7 (fun b e=>(HO7.out.lt b e).1);obtain⟨oa8,oc8,rfl⟩:=zar hown8;clear hown8 hgrow8))
            have hlen:(acc++(k::treeK ks n k.d)).length=acc.length+1+(treeK ks n k.d).length:=by simp;omega
            have HF:Hid (w8.ownsRow wB.heap.size 259 11 (.slice oa8 (acc++(k::treeK ks n k.d)).length oc8) (acc++(k::treeK ks n k.d)).length (flat Mk.cells (acc++(k::treeK ks n k.d)))):=by
              show World.ownsRow _ _ _ _ _ _ _
              rw [hlen,zbw]
              simpa [flat] using HO8.out
            exact⟨⟨i+1,oa8,oc8,acc++(k::treeK ks n k.d),by omega,by go_num,by rw [hlen],HSU.out.symm,HF,HW8⟩,by simp [intOf];omega⟩
          · have hii2:¬(i:Int)<out.length:=by omega
            have HE2:Hid (acc=treeK ks (n+1) d):=by have:=HO.out;rw [List.take_of_length_le (by omega)] at this;rw [HTT.out];exact this
            clear HO
            go_wp2
            go_ret
            have hzA:=HB0.out.size
            have hzB:=HB1.out.size
            refine⟨_,rfl, ?_,HB0.out.trans ((HB1.out.mono (by omega)).trans (HB2.out.mono (by omega)))⟩
            rw [←HE2.out]
            exact zbr HR2.out (by omega)
theorem zcy(a:Mk):zam a a=false:=by unfold zam;simp
theorem zbx{a b c:Mk}(h1:zam a b=true)(h2:zam b c=true):zam a c=true:=by
 unfold zam at *
 split at h1<;>split at h2
 all_goals (try split at h1)
 all_goals (try split at h2)
 all_goals (simp only [decide_eq_true_eq] at h1 h2)
 all_goals (split;(try split))
 all_goals (simp only [decide_eq_true_eq];omega)
theorem zfg{a b:Mk}(h1:zam a b=true):zam b a=false:=by
 rw [←Bool.not_eq_true]
 intro h2
 have:=zbx h1 h2
 rw [zcy] at this
 cases this
structure Fr(ks:List Mk)(x:Mk):Prop where
 d0:x.d ≠⟨0,0,0⟩
 nw:∀k∈ks,k.d ≠ x.d
 dt:∀k∈ks,x.d∉k.m.e.dots∧k.m.e.ref ≠ x.d
 dx:x.d∉x.m.e.dots∧x.m.e.ref ≠ x.d
 par:x.m.e.op=5->x.m.e.ref=⟨0,0,0⟩∨∃p∈ks,p.m.e.op=5∧p.d=x.m.e.ref∧zam x p=true
 tri:∀k∈ks,zam x k=true∨zam k x=true
 e6:x.m.e.op=6->x.m.e.dots= []
 v2:x.m.e.op=2->0<=x.m.e.va∧x.m.e.va<=255
inductive Mks:List Mk->Prop
 | nil:Mks []
 | snoc {ks:List Mk} {x:Mk} (h:Mks ks) (hx:Fr ks x):Mks (ks++ [x])
theorem Mks.uniq{ks:List Mk}(h:Mks ks):∀a∈ks,∀b∈ks,a.d=b.d->a=b:=by
 induction h with
 | nil=>intro a ha;cases ha
 | snoc h hx ih=>
  intro a ha b hb e
  rw [List.mem_append,List.mem_singleton] at ha hb
  rcases ha with ha | rfl<;>rcases hb with hb | rfl
  ·exact ih a ha b hb e
  ·exact absurd e (hx.nw a ha)
  ·exact absurd e.symm (hx.nw b hb)
  ·rfl
theorem Mks.nd{ks:List Mk}(h:Mks ks):(ks.map (·.d)).Nodup:=by
 induction h with
 | nil=>simp
 | snoc h hx ih=>
  rw [List.map_append,List.nodup_append]
  refine⟨ih,by simp,fun a ha b hb=> ?_⟩
  obtain⟨k,hk,rfl⟩:=List.mem_map.1 ha
  simp only [List.map_cons,List.map_nil,List.mem_singleton] at hb
  rw [hb]
  exact hx.nw k hk
theorem Mks.d0{ks:List Mk}(h:Mks ks):∀k∈ks,k.d ≠⟨0,0,0⟩:=by
 induction h with
 | nil=>intro a ha;cases ha
 | snoc h hx ih=>
  intro a ha
  rw [List.mem_append,List.mem_singleton] at ha
  rcases ha with ha | rfl
  ·exact ih a ha
  ·exact hx.d0
theorem Mks.par{ks:List Mk}(h:Mks ks):∀a∈ks,a.m.e.op=5->a.m.e.ref=⟨0,0,0⟩∨∃p∈ks,p.m.e.op=5∧p.d=a.m.e.ref∧zam a p=true:=by
 induction h with
 | nil=>intro a ha;cases ha
 | snoc h hx ih=>
  intro a ha h5
  rw [List.mem_append,List.mem_singleton] at ha
  rcases ha with ha | rfl
  ·rcases ih a ha h5 with q | ⟨p,hp,q⟩
   ·exact .inl q
   ·exact .inr ⟨p,by simp [hp],q⟩
  ·rcases hx.par h5 with q | ⟨p,hp,q⟩
   ·exact .inl q
   ·exact .inr ⟨p,by simp [hp],q⟩
theorem zby(ks:List Mk)(d:Wv.Dt)(c:Mk):c∈chK ks d↔c∈ks∧c.m.e.op=5∧c.m.e.ref=d:=by
 suffices h:∀(l:List Mk) (o:List Mk),c∈l.foldl (za4 d) o↔c∈o∨(c∈l∧c.m.e.op=5∧c.m.e.ref=d) by
  have:=h ks []
  simpa [chK] using this
 intro l
 induction l with
 | nil=>intro o;simp
 | cons k l ih=>
  intro o
  rw [List.foldl_cons,ih]
  have hs:c∈za4 d o k↔c∈o∨(c=k∧k.m.e.op=5∧k.m.e.ref=d):=by
   unfold za4
   split
   ·rename_i hq
    rw [zbe] at hq
    rw [zi3]
    constructor
    ·rintro(rfl | q)
     ·exact .inr ⟨rfl,hq⟩
     ·exact .inl q
    ·rintro(q | ⟨rfl,_⟩)
     ·exact .inr q
     ·exact .inl rfl
   ·rename_i hq
    rw [zbe] at hq
    constructor
    ·exact .inl
    ·rintro(q | ⟨_,q⟩)
     ·exact q
     ·exact absurd q hq
  rw [hs,List.mem_cons]
  constructor
  ·rintro((q | ⟨rfl,q⟩) | ⟨q,r⟩)
   ·exact .inl q
   ·exact .inr ⟨.inl rfl,q⟩
   ·exact .inr ⟨.inr q,r⟩
  ·rintro(q | ⟨rfl | q,r⟩)
   ·exact .inl (.inl q)
   ·exact .inl (.inr ⟨rfl,r⟩)
   ·exact .inr ⟨q,r⟩
theorem zgo(ks:List Mk)(x:Mk)(d:Wv.Dt)(h5:x.m.e.op=5)(hd:x.m.e.ref=d):chK (ks++ [x]) d=insK (fun y=>zam y x) (chK ks d) x:=by
 unfold chK
 rw [List.foldl_append]
 show za4 d (ks.foldl (za4 d) []) x=_
 unfold za4
 rw [if_pos ⟨h5,(zbe _ _).2 hd⟩]
theorem zd3(ks:List Mk)(x:Mk)(d:Wv.Dt)(h:¬(x.m.e.op=5∧x.m.e.ref=d)):chK (ks++ [x]) d=chK ks d:=by
 unfold chK
 rw [List.foldl_append]
 show za4 d (ks.foldl (za4 d) []) x=_
 unfold za4
 rw [if_neg (fun q=>h ⟨q.1,(zbe _ _).1 q.2⟩)]
theorem zdn(p:Mk->Bool)(k:Mk):∀(l:List Mk),∃l1 l2,l=l1++l2∧insK p l k=l1++k::l2∧(∀y∈l1,p y=true)∧(∀y,l2.head?=some y->p y=false)
 | []=>⟨[], [],rfl,rfl,fun y hy=>(by cases hy),fun y hy=>(by cases hy)⟩
 | a::l=>by
  by_cases ha:p a=true
  ·obtain⟨l1,l2,h1,h2,h3,h4⟩:=zdn p k l
   refine⟨a::l1,l2,by rw [h1];rfl, ?_,fun y hy=> ?_,h4⟩
   ·unfold insK insAt at h2 ⊢
    rw [List.takeWhile_cons_of_pos ha,List.length_cons,List.take_succ_cons,List.drop_succ_cons,List.cons_append,h2]
    rfl
   ·rcases List.mem_cons.1 hy with rfl | hy
    ·exact ha
    ·exact h3 y hy
  ·refine⟨[],a::l,rfl, ?_,fun y hy=>(by cases hy),fun y hy=> ?_⟩
   ·unfold insK insAt
    rw [List.takeWhile_cons_of_neg ha]
    rfl
   ·cases hy
    simpa using ha
theorem zlw(p:Mk->Bool)(k:Mk):∀(l1 l2:List Mk),(∀y∈l1,p y=true)->(∀y,l2.head?=some y->p y=false)->insK p (l1++l2) k=l1++k::l2
 | [],l2,_,h=>by
  cases l2 with
  | nil=>rfl
  | cons a l=>
   have ha:¬p a=true:=by rw [h a rfl];exact Bool.false_ne_true
   unfold insK insAt
   rw [List.nil_append,List.takeWhile_cons_of_neg ha]
   rfl
 | a::l1,l2,h1,h2=>by
  have ih:=zlw p k l1 l2 (fun y hy=>h1 y (by simp [hy])) h2
  unfold insK insAt at ih ⊢
  rw [List.cons_append,List.takeWhile_cons_of_pos (h1 a (by simp)),List.length_cons,List.take_succ_cons,List.drop_succ_cons,List.cons_append,ih]
  rfl
theorem zt7(p:Mk->Bool)(k:Mk)(l r:List Mk)(h:∀y,r.head?=some y->p y=false):insK p (l++r) k=insK p l k++r:=by
 obtain⟨l1,l2,rfl,e,h3,h4⟩:=zdn p k l
 rw [e,List.append_assoc,zlw p k l1 (l2++r) h3,List.append_assoc]
 ·rfl
 ·intro y hy
  cases l2 with
  | nil=>exact h y (by simpa using hy)
  | cons a l=>exact h4 y (by simpa using hy)
theorem zx6{ks:List Mk}(h:Mks ks)(d:Wv.Dt):(chK ks d).Pairwise (fun a b=>zam a b=true):=by
 induction h with
 | nil=>exact List.Pairwise.nil
 | @snoc ks x h hx ih=>
  by_cases hq:x.m.e.op=5∧x.m.e.ref=d
  ·rw [zgo ks x d hq.1 hq.2]
   obtain⟨l1,l2,e1,e2,h3,h4⟩:=zdn (fun y=>zam y x) x (chK ks d)
   rw [e2]
   have hm:∀y,y∈l1++l2->y∈ks:=fun y hy=>zr6 (d:=d) (by rw [e1];exact hy)
   rw [e1,List.pairwise_append] at ih
   obtain⟨i1,i2,i3⟩:=ih
   have hall:∀y∈l2,zam x y=true:=by
    intro y hy
    cases l2 with
    | nil=>cases hy
    | cons a l=>
     have ha:zam x a=true:=by
      rcases hx.tri a (hm a (by simp)) with q | q
      ·exact q
      ·have:=h4 a rfl
       simp only [q] at this
       cases this
     rcases List.mem_cons.1 hy with rfl | hy
     ·exact ha
     ·exact zbx ha ((List.pairwise_cons.1 i2).1 y hy)
   rw [List.pairwise_append]
   refine⟨i1,List.pairwise_cons.2 ⟨hall,i2⟩,fun a ha b hb=> ?_⟩
   rcases List.mem_cons.1 hb with rfl | hb
   ·exact h3 a ha
   ·exact i3 a ha b hb
  ·rw [zd3 ks x d hq]
   exact ih
theorem Mks.idx{ks:List Mk}(h:Mks ks):∀i k (hi:i<ks.length) (hk:k<ks.length),ks[k].m.e.op=5->ks[k].m.e.ref=ks[i].d->i<k:=by
 induction h with
 | nil=>intro i k hi;cases hi
 | @snoc ks x h hx ih=>
  intro i k hi hk h5 e
  rw [List.length_append,List.length_singleton] at hi hk
  by_cases hk1:k<ks.length
  ·by_cases hi1:i<ks.length
   ·rw [List.getElem_append_left hk1] at h5 e
    rw [List.getElem_append_left hi1] at e
    exact ih i k hi1 hk1 h5 e
   ·exfalso
    rw [List.getElem_append_left hk1] at e
    rw [List.getElem_append_right (by omega)] at e
    simp only [List.getElem_singleton] at e
    exact(hx.dt _ (List.getElem_mem hk1)).2 e
  ·by_cases hi1:i<ks.length
   ·omega
   ·exfalso
    rw [List.getElem_append_right (by omega),List.getElem_append_right (by omega)] at e
    simp only [List.getElem_singleton] at e
    exact hx.dx.2 e
theorem zd9{ks:List Mk}(h:Mks ks)(P:Wv.Dt->Prop)(step:∀d,(∀c∈chK ks d,P c.d)->P d)(d:Wv.Dt):P d:=by
 have hall:∀(n j:Nat) (d:Wv.Dt),ks.length - j<=n->(∀i (hi:i<ks.length),ks[i].m.e.op=5->ks[i].m.e.ref=d->j<=i)->P d:=by
  intro n
  induction n with
  | zero=>
   intro j d hn hj
   refine step d (fun c hc=> ?_)
   obtain⟨h1,h2,h3⟩:=(zby ks d c).1 hc
   obtain⟨i,hi,rfl⟩:=List.mem_iff_getElem.1 h1
   have:=hj i hi h2 h3
   omega
  | succ n ih=>
   intro j d hn hj
   refine step d (fun c hc=> ?_)
   obtain⟨h1,h2,h3⟩:=(zby ks d c).1 hc
   obtain⟨i,hi,rfl⟩:=List.mem_iff_getElem.1 h1
   have:=hj i hi h2 h3
   exact ih (i+1) _ (by omega) (fun k hk q1 q2=>h.idx i k hi hk q1 q2)
 exact hall ks.length 0 d (by omega) (fun i _ _ _=>Nat.zero_le i)
theorem zo1{ks:List Mk}(h:Mks ks):∀(n j:Nat) (d:Wv.Dt),ks.length - j<=n->(∀i (hi:i<ks.length),ks[i].m.e.op=5->ks[i].m.e.ref=d->j<=i)->treeK ks (n+1) d=treeK ks n d:=by
 intro n
 induction n with
 | zero=>
  intro j d hn hj
  have:chK ks d= []:=by
   rw [List.eq_nil_iff_forall_not_mem]
   intro c hc
   obtain⟨h1,h2,h3⟩:=(zby ks d c).1 hc
   obtain⟨i,hi,rfl⟩:=List.mem_iff_getElem.1 h1
   have:=hj i hi h2 h3
   omega
  unfold treeK
  rw [this]
  rfl
 | succ n ih=>
  intro j d hn hj
  show(chK ks d).flatMap (fun c=>c::treeK ks (n+1) c.d)=(chK ks d).flatMap (fun c=>c::treeK ks n c.d)
  rw [List.flatMap_def,List.flatMap_def]
  congr 1
  refine List.map_congr_left (fun c hc=> ?_)
  obtain⟨h1,h2,h3⟩:=(zby ks d c).1 hc
  obtain⟨i,hi,rfl⟩:=List.mem_iff_getElem.1 h1
  have:=hj i hi h2 h3
  rw [ih (i+1) _ (by omega) (fun k hk q1 q2=>h.idx i k hi hk q1 q2)]
def treeT(ks:List Mk)(d:Wv.Dt):List Mk:=treeK ks (ks.length+1) d
theorem zcg{ks:List Mk}(h:Mks ks)(d:Wv.Dt):treeT ks d=(chK ks d).flatMap (fun c=>c::treeT ks c.d):=by
 unfold treeT
 rw [←zo1 h (ks.length+1) 0 d (by omega) (fun i _ _ _=>Nat.zero_le i)]
 rfl
theorem zbj{ks:List Mk}(h:Mks ks)(d:Wv.Dt)(k:Mk):k∈treeT ks d↔∃c∈chK ks d,k=c∨k∈treeT ks c.d:=by
 rw [zcg h d,List.mem_flatMap]
 simp only [List.mem_cons]
theorem zdg{ks:List Mk}(h:Mks ks)(d:Wv.Dt):∀p∈ks,p.d=d->∀k∈treeT ks d,zam k p=true:=by
 refine zd9 h (fun d=>∀p∈ks,p.d=d->∀k∈treeT ks d,zam k p=true) (fun d ih p hp e k hk=> ?_) d
 obtain⟨c,hc,hk⟩:=(zbj h d k).1 hk
 obtain⟨h1,h2,h3⟩:=(zby ks d c).1 hc
 have hcp:zam c p=true:=by
  rcases h.par c h1 h2 with q | ⟨p',hp',q1,q2,q3⟩
  ·exact absurd (e.trans (h3.symm.trans q)) (h.d0 p hp)
  ·obtain rfl:p'=p:=h.uniq p' hp' p hp (by rw [q2,h3,e])
   exact q3
 rcases hk with rfl | hk
 ·exact hcp
 ·exact zbx (ih c hc c h1 rfl k hk) hcp
theorem zcb{ks:List Mk}(h:Mks ks)(d:Wv.Dt):∀k∈treeT ks d,k∈ks∧k.m.e.op=5:=by
 refine zd9 h (fun d=>∀k∈treeT ks d,k∈ks∧k.m.e.op=5) (fun d ih k hk=> ?_) d
 obtain⟨c,hc,hk⟩:=(zbj h d k).1 hk
 obtain⟨h1,h2,h3⟩:=(zby ks d c).1 hc
 rcases hk with rfl | hk
 ·exact⟨h1,h2⟩
 ·exact ih c hc k hk
theorem zif{ks:List Mk}(h:Mks ks)(d:Wv.Dt):∀k∈treeT ks d,k.m.e.ref=d∨∃p∈treeT ks d,p.d=k.m.e.ref:=by
 refine zd9 h (fun d=>∀k∈treeT ks d,k.m.e.ref=d∨∃p∈treeT ks d,p.d=k.m.e.ref) (fun d ih k hk=> ?_) d
 obtain⟨c,hc,hk⟩:=(zbj h d k).1 hk
 obtain⟨h1,h2,h3⟩:=(zby ks d c).1 hc
 rcases hk with rfl | hk
 ·exact .inl h3
 ·rcases ih c hc k hk with q | ⟨p,hp,q⟩
  ·exact .inr ⟨c,(zbj h d c).2 ⟨c,hc, .inl rfl⟩,q.symm⟩
  ·exact .inr ⟨p,(zbj h d p).2 ⟨c,hc, .inr hp⟩,q⟩
theorem zo0{ks:List Mk}(h:Mks ks)(d:Wv.Dt)(a b:Mk)(ha:a∈chK ks d)(hb:b∈chK ks d):∀(n:Nat) (hn:n<ks.length),ks[n]∈a::treeT ks a.d->ks[n]∈b::treeT ks b.d->a=b:=by
 obtain⟨a1,a2,a3⟩:=(zby ks d a).1 ha
 obtain⟨b1,b2,b3⟩:=(zby ks d b).1 hb
 have key:∀a b:Mk,a∈ks->a.m.e.op=5->a.m.e.ref=d->b∈ks->b.m.e.op=5->b.m.e.ref=d->a∈treeT ks b.d->False:=by
  intro a b a1 a2 a3 b1 b2 b3 hq
  have hbd:∀p∈ks,p.d=d->zam b p=true:=by
   intro p hp e
   rcases h.par b b1 b2 with q | ⟨p',hp',q1,q2,q3⟩
   ·exact absurd (e.trans (b3.symm.trans q)) (h.d0 p hp)
   ·obtain rfl:p'=p:=h.uniq p' hp' p hp (by rw [q2,b3,e])
    exact q3
  rcases zif h b.d a hq with q | ⟨p,hp,q⟩
  ·have:=hbd b b1 (q.symm.trans a3)
   rw [zcy] at this
   cases this
  ·have hpk:=(zcb h b.d p hp).1
   have h1:=hbd p hpk (q.trans a3)
   have h2:=zdg h b.d b b1 rfl p hp
   rw [zfg h1] at h2
   cases h2
 intro n
 induction n using Nat.strongRecOn with
 | _ n ih=>
  intro hn q1 q2
  rcases List.mem_cons.1 q1 with e1 | q1
  ·rcases List.mem_cons.1 q2 with e2 | q2
   ·exact e1.symm.trans e2
   ·rw [e1] at q2
    exact(key a b a1 a2 a3 b1 b2 b3 q2).elim
  ·rcases List.mem_cons.1 q2 with e2 | q2
   ·rw [e2] at q1
    exact(key b a b1 b2 b3 a1 a2 a3 q1).elim
   ·have hup:∀c:Mk,c∈ks->ks[n]∈treeT ks c.d->∃p∈c::treeT ks c.d,p∈ks∧p.d=ks[n].m.e.ref:=by
     intro c hc hq
     rcases zif h c.d _ hq with q | ⟨p,hp,q⟩
     ·exact⟨c,by simp,hc,q.symm⟩
     ·exact⟨p,by simp [hp],(zcb h c.d p hp).1,q⟩
    obtain⟨p,hp,hpk,e1⟩:=hup a a1 q1
    obtain⟨p',hp',hpk',e2⟩:=hup b b1 q2
    obtain rfl:p=p':=h.uniq p hpk p' hpk' (e1.trans e2.symm)
    obtain⟨i,hi,rfl⟩:=List.mem_iff_getElem.1 hpk
    have hlt:=h.idx i n hi hn (zcb h a.d _ q1).2 e1.symm
    exact ih i hlt hi hp hp'
theorem zvl{α:Type}{a:α}{l1 l2 A R:List α}(h:l1++a::l2=A++R)(hn:a∉A):∃m,l1=A++m∧R=m++a::l2:=by
 rcases List.append_eq_append_iff.1 h with⟨m,h1,h2⟩ | ⟨m,h1,h2⟩
 ·cases m with
  | nil=>exact⟨[],by simpa using h1.symm,by simpa using h2.symm⟩
  | cons b m=>
   rw [List.cons_append,List.cons.injEq] at h2
   obtain⟨rfl,h2⟩:=h2
   exact absurd (by rw [h1];simp) hn
 ·exact⟨m,h1,h2⟩
theorem zsv{α:Type}{a:α}{m L2 C FB:List α}(h:C++FB=m++a::L2)(hn:a∉FB):∃m',C=m++a::m'∧L2=m'++FB:=by
 rcases List.append_eq_append_iff.1 h with⟨bs,h1,h2⟩ | ⟨bs,h1,h2⟩
 ·exact absurd (by rw [h2];simp) hn
 ·cases bs with
  | nil=>exact absurd (by rw [List.nil_append] at h2;rw [←h2];simp) hn
  | cons b bs=>
   rw [List.cons_append,List.cons.injEq] at h2
   obtain⟨rfl,h2⟩:=h2
   exact⟨bs,h1,h2⟩
theorem zbt{α β:Type}{f g:α->List β}{l:List α}(h:∀c∈l,f c=g c):l.flatMap f=l.flatMap g:=by
 rw [List.flatMap_def,List.flatMap_def]
 congr 1
 exact List.map_congr_left h
theorem zk2{f:Mk->List Mk}{l:List Mk}{y:Mk}(h:(l.flatMap (fun c=>c::f c)).head?=some y):l.head?=some y:=by
 cases l with
 | nil=>cases h
 | cons a l=>simpa using h
theorem zsj{ks:List Mk}(h:Mks ks):∀(n:Nat) (hn:n<ks.length),ks[n].m.e.op=5->ks[n]∈treeT ks ⟨0,0,0⟩:=by
 have hch:∀d,∀p∈treeT ks d,∀k∈ks,k.m.e.op=5->k.m.e.ref=p.d->k∈treeT ks d:=by
  intro d
  refine zd9 h (fun d=>∀p∈treeT ks d,∀k∈ks,k.m.e.op=5->k.m.e.ref=p.d->k∈treeT ks d) (fun d ih p hp k hk h5 e=> ?_) d
  obtain⟨c,hc,hq⟩:=(zbj h d p).1 hp
  refine(zbj h d k).2 ⟨c,hc, .inr ?_⟩
  rcases hq with rfl | hq
  ·exact(zbj h p.d k).2 ⟨k,(zby ks p.d k).2 ⟨hk,h5,e⟩, .inl rfl⟩
  ·exact ih c hc p hq k hk h5 e
 intro n
 induction n using Nat.strongRecOn with
 | _ n ih=>
  intro hn h5
  rcases h.par _ (List.getElem_mem hn) h5 with q | ⟨p,hp,q1,q2,_⟩
  ·exact(zbj h _ _).2 ⟨ks[n],(zby ks _ _).2 ⟨List.getElem_mem hn,h5,q⟩, .inl rfl⟩
  ·obtain⟨i,hi,rfl⟩:=List.mem_iff_getElem.1 hp
   exact hch _ _ (ih i (h.idx i n hi hn h5 q2.symm) hi q1) _ (List.getElem_mem hn) h5 q2.symm
section
variable {ks : List Mk} {x : Mk}
theorem zsk(h:Mks ks)(hx:Fr ks x):treeT (ks++ [x]) x.d= []:=by
 rw [zcg (h.snoc hx)]
 have:chK (ks++ [x]) x.d= []:=by
  rw [List.eq_nil_iff_forall_not_mem]
  intro c hc
  obtain⟨h1,_,h3⟩:=(zby _ _ c).1 hc
  rw [List.mem_append,List.mem_singleton] at h1
  rcases h1 with h1 | rfl
  ·exact(hx.dt c h1).2 h3
  ·exact hx.dx.2 h3
 rw [this]
 rfl
theorem zmk(h:Mks ks)(hx:Fr ks x)(h5:x.m.e.op ≠ 5)(d:Wv.Dt):treeT (ks++ [x]) d=treeT ks d:=by
 refine zd9 h (fun d=>treeT (ks++ [x]) d=treeT ks d) (fun d ih=> ?_) d
 rw [zcg (h.snoc hx),zcg h,zd3 ks x d (fun q=>h5 q.1)]
 exact zbt (fun c hc=>by rw [ih c hc])
theorem zmj(h:Mks ks)(hx:Fr ks x)(h5:x.m.e.op=5)(d:Wv.Dt):
  (d=x.m.e.ref->treeT (ks++ [x]) d=insK (fun y=>zam y x) (treeT ks d) x)∧
  (∀l1 pk l2,d ≠ x.m.e.ref->pk.d=x.m.e.ref->treeT ks d=l1++pk::l2->treeT (ks++ [x]) d=l1++pk::insK (fun y=>zam y x) l2 x)∧
  (d ≠ x.m.e.ref->(∀k∈treeT ks d,k.d ≠ x.m.e.ref)->treeT (ks++ [x]) d=treeT ks d):=by
 refine zd9 h (fun d=>(d=x.m.e.ref->treeT (ks++ [x]) d=insK (fun y=>zam y x) (treeT ks d) x)∧
  (∀l1 pk l2,d ≠ x.m.e.ref->pk.d=x.m.e.ref->treeT ks d=l1++pk::l2->treeT (ks++ [x]) d=l1++pk::insK (fun y=>zam y x) l2 x)∧
  (d ≠ x.m.e.ref->(∀k∈treeT ks d,k.d ≠ x.m.e.ref)->treeT (ks++ [x]) d=treeT ks d)) (fun d ih=>⟨fun e=> ?_,fun l1 pk l2 hne hpk hsp=> ?_,fun hne hno=> ?_⟩) d
 ·
  subst e
  have hcs:∀c∈chK ks x.m.e.ref,treeT (ks++ [x]) c.d=treeT ks c.d:=by
   intro c hc
   obtain⟨h1,h2,h3⟩:=(zby ks _ c).1 hc
   have hlat:∀k∈ks,k.d=x.m.e.ref->zam c k=true:=by
    intro k hk e
    rcases h.par c h1 h2 with q | ⟨p',hp',q1,q2,q3⟩
    ·exact absurd (e.trans (h3.symm.trans q)) (h.d0 k hk)
    ·obtain rfl:p'=k:=h.uniq p' hp' k hk (by rw [q2,h3,e])
     exact q3
   refine(ih c hc).2.2 (fun e=> ?_) (fun k hk e=> ?_)
   ·have:=hlat c h1 e
    rw [zcy] at this
    cases this
   ·have a1:=hlat k (zcb h _ k hk).1 e
    have a2:=zdg h c.d c h1 rfl k hk
    rw [zfg a1] at a2
    cases a2
  rw [zcg (h.snoc hx),zgo ks x _ h5 rfl,zcg h]
  obtain⟨l1,l2,e1,e2,h3,h4⟩:=zdn (fun y=>zam y x) x (chK ks x.m.e.ref)
  rw [e2,List.flatMap_append,List.flatMap_cons,zsk h hx]
  have f1:l1.flatMap (fun c=>c::treeT (ks++ [x]) c.d)=l1.flatMap (fun c=>c::treeT ks c.d):=zbt (fun c hc=>by rw [hcs c (by rw [e1];simp [hc])])
  have f2:l2.flatMap (fun c=>c::treeT (ks++ [x]) c.d)=l2.flatMap (fun c=>c::treeT ks c.d):=zbt (fun c hc=>by rw [hcs c (by rw [e1];simp [hc])])
  rw [f1,f2,e1,List.flatMap_append,zlw]
  ·rfl
  ·intro y hy
   obtain⟨c,hc,hy⟩:=List.mem_flatMap.1 hy
   have hc1:=h3 c hc
   rcases List.mem_cons.1 hy with rfl | hy
   ·exact hc1
   ·exact zbx (zdg h c.d c (zr6 (d:=x.m.e.ref) (by rw [e1];simp [hc])) rfl y hy) hc1
  ·intro y hy
   exact h4 y (zk2 hy)
 ·
  have hpT:pk∈treeT ks d:=by rw [hsp];simp
  have hpm:=zcb h d pk hpT
  have hxp:zam x pk=true:=by
   rcases hx.par h5 with q | ⟨p',hp',q1,q2,q3⟩
   ·exact absurd (hpk.trans q) (h.d0 pk hpm.1)
   ·obtain rfl:p'=pk:=h.uniq p' hp' pk hpm.1 (by rw [q2,hpk])
    exact q3
  obtain⟨c,hc,hin⟩:=(zbj h d pk).1 hpT
  obtain⟨A,B,hAB⟩:=List.append_of_mem hc
  have hcs:=(zby ks d c).1 hc
  obtain⟨np,hnp,hnpe⟩:=List.mem_iff_getElem.1 hpm.1
  have hrise:=zx6 h d
  rw [hAB,List.pairwise_append] at hrise
  have hne2:∀b∈A++B,b ≠ c:=by
   intro b hb e
   subst e
   rcases List.mem_append.1 hb with hb | hb
   ·have:=hrise.2.2 b hb b (by simp)
    rw [zcy] at this
    cases this
   ·have:=(List.pairwise_cons.1 hrise.2.1).1 b hb
    rw [zcy] at this
    cases this
  have hout:∀b∈A++B,pk∉b::treeT ks b.d:=by
   intro b hb hq
   have hbc:b∈chK ks d:=by
    rw [hAB]
    rcases List.mem_append.1 hb with hb | hb
    ·simp [hb]
    ·simp [hb]
   refine hne2 b hb (zo0 h d b c hbc hc np hnp (by rw [hnpe];exact hq) (by rw [hnpe];exact List.mem_cons.2 hin))
  have hsame:∀b∈A++B,treeT (ks++ [x]) b.d=treeT ks b.d:=by
   intro b hb
   have hbc:b∈chK ks d:=by
    rw [hAB]
    rcases List.mem_append.1 hb with hb | hb
    ·simp [hb]
    ·simp [hb]
   refine(ih b hbc).2.2 (fun e=>hout b hb ?_) (fun k hk e=>hout b hb ?_)
   ·have:b=pk:=h.uniq b ((zby ks d b).1 hbc).1 pk hpm.1 (e.trans hpk.symm)
    rw [this];simp
   ·have:k=pk:=h.uniq k (zcb h _ k hk).1 pk hpm.1 (e.trans hpk.symm)
    rw [←this];simp [hk]
  have f1:A.flatMap (fun c=>c::treeT (ks++ [x]) c.d)=A.flatMap (fun c=>c::treeT ks c.d):=zbt (fun b hb=>by rw [hsame b (by simp [hb])])
  have f2:B.flatMap (fun c=>c::treeT (ks++ [x]) c.d)=B.flatMap (fun c=>c::treeT ks c.d):=zbt (fun b hb=>by rw [hsame b (by simp [hb])])
  have hT:treeT ks d=A.flatMap (fun c=>c::treeT ks c.d)++((c::treeT ks c.d)++B.flatMap (fun c=>c::treeT ks c.d)):=by
   rw [zcg h,hAB,List.flatMap_append,List.flatMap_cons]
  have hT':treeT (ks++ [x]) d=A.flatMap (fun c=>c::treeT ks c.d)++((c::treeT (ks++ [x]) c.d)++B.flatMap (fun c=>c::treeT ks c.d)):=by
   rw [zcg (h.snoc hx),zd3 ks x d (fun q=>hne q.2.symm),hAB,List.flatMap_append,List.flatMap_cons,f1,f2]
  have hnA:pk∉A.flatMap (fun c=>c::treeT ks c.d):=by
   intro hq
   obtain⟨b,hb,hq⟩:=List.mem_flatMap.1 hq
   exact hout b (by simp [hb]) hq
  have hnB:pk∉B.flatMap (fun c=>c::treeT ks c.d):=by
   intro hq
   obtain⟨b,hb,hq⟩:=List.mem_flatMap.1 hq
   exact hout b (by simp [hb]) hq
  rw [hsp] at hT
  obtain⟨m,rfl,hR⟩:=zvl hT hnA
  obtain⟨m',hC,rfl⟩:=zsv hR hnB
  have hhead:∀y,(B.flatMap (fun c=>c::treeT ks c.d)).head?=some y->zam y x=false:=by
   intro y hy
   have hyB:y∈B:=List.mem_of_mem_head? (zk2 hy)
   have hcy:=(List.pairwise_cons.1 hrise.2.1).1 y hyB
   apply zfg
   rcases hin with rfl | hin
   ·exact zbx hxp hcy
   ·exact zbx hxp (zbx (zdg h c.d c hcs.1 rfl pk hin) hcy)
  rw [hT',zt7 _ _ _ _ hhead]
  cases m with
  | nil=>
   rw [List.nil_append,List.cons.injEq] at hC
   obtain⟨rfl,rfl⟩:=hC
   rw [(ih c hc).1 hpk,List.append_nil]
   rfl
  | cons b m0=>
   rw [List.cons_append,List.cons.injEq] at hC
   obtain⟨rfl,hC⟩:=hC
   have hcne:c.d ≠ x.m.e.ref:=by
    intro e
    have:c=pk:=h.uniq c hcs.1 pk hpm.1 (e.trans hpk.symm)
    have hl:=zdg h c.d c hcs.1 rfl pk (by rw [hC];simp)
    rw [this,zcy] at hl
    cases hl
   rw [(ih c hc).2.1 m0 pk m' hcne hpk hC]
   simp only [List.cons_append,List.append_assoc]
 ·
  rw [zcg (h.snoc hx),zcg h,zd3 ks x d (fun q=>hne q.2.symm)]
  refine zbt (fun c hc=> ?_)
  rw [(ih c hc).2.2 (fun e=>hno c ((zbj h d c).2 ⟨c,hc, .inl rfl⟩) e) (fun k hk=>hno k ((zbj h d k).2 ⟨c,hc, .inr hk⟩))]
end
def elK(ks:List Mk)(k:Mk):El:=⟨⟨k.d,k.t⟩,k.m.e.va,goneK ks 6 k.d⟩
theorem zw5(k x:Mk):zi0 ⟨k.d,k.t⟩ ⟨x.d,x.t⟩=zam k x:=by
 show decide (0<orI (cmpI k.t x.t) (cmpI k.d.o x.d.o) (cmpI k.d.i x.d.i))=_
 unfold zam cmpI
 rcases Int.lt_trichotomy k.t x.t with h | h | h
 ·rw [if_pos h,if_neg (show¬k.t=x.t by omega)]
  show decide ((0:Int)< -1)=_
  rw [decide_eq_false (show¬x.t<k.t by omega)]
  rfl
 ·rw [if_neg (by omega),if_neg (by omega),if_pos h]
  show decide (0<(if (if k.d.o<x.d.o then(-1:Int) else if x.d.o<k.d.o then 1 else 0)=0 then(if k.d.i<x.d.i then(-1:Int) else if x.d.i<k.d.i then 1 else 0) else(if k.d.o<x.d.o then(-1:Int) else if x.d.o<k.d.o then 1 else 0)))=_
  rcases Int.lt_trichotomy k.d.o x.d.o with g | g | g
  ·rw [if_pos g,if_neg (by omega),if_neg (by omega),decide_eq_false (show¬x.d.o<k.d.o by omega)]
   rfl
  ·rw [if_neg (show¬k.d.o<x.d.o by omega),if_neg (show¬x.d.o<k.d.o by omega),if_pos rfl,if_pos g]
   rcases Int.lt_trichotomy k.d.i x.d.i with f | f | f
   ·rw [if_pos f,decide_eq_false (show¬x.d.i<k.d.i by omega)]
    rfl
   ·rw [if_neg (show¬k.d.i<x.d.i by omega),if_neg (show¬x.d.i<k.d.i by omega),decide_eq_false (show¬x.d.i<k.d.i by omega)]
    rfl
   ·rw [if_neg (show¬k.d.i<x.d.i by omega),if_pos f,decide_eq_true f]
    rfl
  ·rw [if_neg (show¬k.d.o<x.d.o by omega),if_pos g,if_neg (by omega),if_neg (by omega),decide_eq_true g]
   rfl
 ·rw [if_neg (show¬k.t<x.t by omega),if_pos h,if_neg (show¬k.t=x.t by omega),decide_eq_true h]
  rfl
theorem zml(f:Mk->El)(s:Stp)(q:Mk->Bool)(hf:∀k,zdl s (f k)=q k)(l:List Mk):((l.map f).takeWhile (zdl s)).length=(l.takeWhile q).length:=by
 rw [List.takeWhile_map,List.length_map]
 congr 2
 funext k
 exact hf k
theorem zv7{ks:List Mk}{x:Mk}(h:Mks ks)(hx:Fr ks x)(h5:x.m.e.op=5)(f:Mk->El)(hf:∀k,(f k).s=⟨k.d,k.t⟩):
  putL ((treeT ks ⟨0,0,0⟩).map f) (f x) x.m.e.ref=(treeT (ks++ [x]) ⟨0,0,0⟩).map f:=by
 have hlat:∀k,zdl (f x).s (f k)=zam k x:=by
  intro k
  unfold zdl
  rw [hf,hf,zw5]
 unfold putL zeq insL
 by_cases hr:x.m.e.ref=⟨0,0,0⟩
 ·have hh:headL ((treeT ks ⟨0,0,0⟩).map f) x.m.e.ref=0:=by
   unfold headL
   rw [zqq]
   ·rfl
   ·intro e he
    obtain⟨k,hk,rfl⟩:=List.mem_map.1 he
    rw [←Bool.not_eq_true,zhd,hf,hr]
    exact h.d0 k (zcb h _ k hk).1
  rw [hh,(zmj h hx h5 ⟨0,0,0⟩).1 hr.symm,Nat.zero_add,List.drop_zero,zml f (f x).s (fun k=>zam k x) hlat]
  unfold insK insAt
  rw [List.map_append,List.map_cons,List.map_take,List.map_drop]
 ·obtain⟨p,hp,q1,q2,q3⟩:∃p∈ks,p.m.e.op=5∧p.d=x.m.e.ref∧zam x p=true:=by
   rcases hx.par h5 with q | q
   ·exact absurd q hr
   ·exact q
  obtain⟨i,hi,rfl⟩:=List.mem_iff_getElem.1 hp
  have hpT:=zsj h i hi q1
  obtain⟨l1,l2,hsp,hnl⟩:∃l1 l2,treeT ks ⟨0,0,0⟩=l1++ks[i]::l2∧ks[i]∉l1:=by
   obtain⟨l1,l2,h1,h2⟩:=List.eq_append_cons_of_mem hpT
   exact⟨l1,l2,h1,h2⟩
  have hh:headL ((treeT ks ⟨0,0,0⟩).map f) x.m.e.ref=l1.length+1:=by
   unfold headL
   rw [hsp,List.map_append,List.map_cons,zqr]
   ·rw [List.length_map];omega
   ·intro e he
    obtain⟨k,hk,rfl⟩:=List.mem_map.1 he
    rw [←Bool.not_eq_true,zhd,hf]
    intro e
    have:k=ks[i]:=h.uniq k (zcb h _ k (by rw [hsp];simp [hk])).1 _ hp (e.trans q2.symm)
    exact hnl (by rw [←this];exact hk)
   ·rw [zhd,hf];exact q2
  rw [hh,(zmj h hx h5 ⟨0,0,0⟩).2.1 l1 ks[i] l2 (fun e=>hr e.symm) q2 hsp,hsp]
  have hd:(List.map f (l1++ks[i]::l2)).drop (l1.length+1)=l2.map f:=by
   rw [←List.map_drop]
   rw [show l1++ks[i]::l2=(l1++ [ks[i]])++l2 by simp,List.drop_append]
   simp
  rw [hd,zml f (f x).s (fun k=>zam k x) hlat]
  unfold insK insAt
  generalize (l2.takeWhile (fun k=>zam k x)).length=n
  have e1:(List.map f (l1++ks[i]::l2)).take (l1.length+1+n)=l1.map f++f ks[i]::(l2.take n).map f:=by
   rw [←List.map_take]
   rw [show l1++ks[i]::l2=(l1++ [ks[i]])++l2 by simp,List.take_append,List.take_of_length_le (by simp)]
   simp
  have e2:(List.map f (l1++ks[i]::l2)).drop (l1.length+1+n)=(l2.drop n).map f:=by
   rw [←List.map_drop]
   rw [show l1++ks[i]::l2=(l1++ [ks[i]])++l2 by simp,List.drop_append]
   simp
  rw [e1,e2]
  simp
end Go.Proofs.YtfmcngncaffloaaGreatDoor
