import Derived.Test.YtfmcngncaffloabGreatDoorJ03KeA
import Derived.Deep.QuietTactic
import Derived.BigQuiet
set_option maxHeartbeats 1600000
namespace Go.Proofs.YtfmcngncaffloabGreatDoor
open Go.RowKit Go.Proofs.Tryz Wv
set_option maxRecDepth 100000
theorem ztr(o s t:Int)(ca:Option Addr)(n c:Nat)(ev:Value)(d:Dt)(i:Int)(w:World)(hn:n<=9223372036854775807)(h:¬(0<=d.o∧d.o<n∧0<=d.i∧d.i<5)):
  Calls prog 207 #[.agg #[I o,I s,I t, .slice ca n c,ev],I i,dotV d] w fun e w'=>e= .returned (.bool false)∧Below w.heap.size w w':=by
 by_cases h':0<=d.o∧d.o<=(n:Int) - 1
 ·have h1:(decide (0<=d.i) && decide (d.i<=4))=false:=by simp;omega
  clear h;go_enter func207,ntmps207;go_wp2_with (go_at_call 97;refine(zai _ _ _ _).mono ?_;rintro e w' ⟨rfl,h⟩;subst h)
  all_goals (go_ret;exact⟨rfl,((Below.refl _ _).alloc (ac _) _).alloc (by simp) _⟩)
 ·have h1:(decide (0<=d.o) && decide (d.o<=(n:Int) - 1))=false:=by simp;omega
  clear h h';go_enter func207,ntmps207;go_wp2_with (go_at_call 97;refine(zai _ _ _ _).mono ?_;rintro e w' ⟨rfl,h⟩;subst h)
  all_goals (go_ret;exact⟨rfl,((Below.refl _ _).alloc (ac _) _).alloc (by simp) _⟩)
theorem ztq(o s t:Int)(ca:Option Addr)(n c:Nat)(ev:Value)(di:Int)(i:Int)(w:World)(hn:n<=9223372036854775807)(h0:0<=o)(h1:o<=(n:Int) - 1)(h3:0<=di)(h4:di<=4):
  Calls prog 207 #[.agg #[I o,I s,I t, .slice ca n c,ev],I i, .agg #[I o,I s,I di]] w fun e w'=>e= .returned (.bool (decide (di<i)))∧Below w.heap.size w w':=by
 go_enter func207,ntmps207;go_wp2_with (go_at_call 97;refine(zai _ _ _ _).mono ?_;rintro e w' ⟨rfl,h⟩;subst h)
 all_goals (go_ret;exact⟨rfl,((Below.refl _ _).alloc (ac _) _).alloc (by simp) _⟩)
theorem zxs(o s t:Int)(b p n c k:Nat)(z:Int)(ev:Value)(ds di:Int)(i:Int)(w:World)(hn:n<=9223372036854775807)(hk:k<n)(hc:w.cell? ⟨b,p+k,none⟩=some (I z))(hb:b<w.heap.size)(h3:0<=di)(h4:di<=4)
  (hx:((k:Int)==o)=false∨(ds==s)=false):
  Calls prog 207 #[.agg #[I o,I s,I t, .slice (some ⟨b,p,none⟩) n c,ev],I i, .agg #[I (k:Int),I ds,I di]] w fun e w'=>e= .returned (.bool (decide (1<=ds) && decide (ds<=z)))∧Below w.heap.size w w':=by
 have h1:(k:Int)<=(n:Int) - 1:=by omega
 cases h2:((k:Int)==o)
 ·clear hx
  go_enter func207,ntmps207;go_wp2_with (go_at_call 97;refine(zai _ _ _ _).mono ?_;rintro e w' ⟨rfl,h⟩;subst h)
  go_quiet ((go_at_call 97;exact Calls.quiet_of_same (zai _ _ _ _)))
  go_wp2;all_goals (go_ret;exact⟨rfl,za7 (((Below.refl _ _).alloc (ac _) _).alloc (by simp) _) _⟩)
 ·have h3':(ds==s)=false:=by simpa [h2] using hx
  clear hx;go_enter func207,ntmps207;go_wp2_with (go_at_call 97;refine(zai _ _ _ _).mono ?_;rintro e w' ⟨rfl,h⟩;subst h)
  go_quiet ((go_at_call 97;exact Calls.quiet_of_same (zai _ _ _ _)))
  go_wp2;all_goals (go_ret;exact⟨rfl,za7 (((Below.refl _ _).alloc (ac _) _).alloc (by simp) _) _⟩)
end Go.Proofs.YtfmcngncaffloabGreatDoor
namespace Go.Proofs.YtfmcngncaffloabGreatDoor
open Go.RowKit Go.Proofs.Tryz Wv
set_option maxRecDepth 100000
structure Right(b:Bt):Prop where
 len:b.clock.length<=4
 lo:0<=b.o
 hi:b.o<b.clock.length
 seq:1<=b.s
 own:b.clock.getD b.o.toNat 0=b.s - 1
theorem zd5(b:Bt)(ca:Option Addr)(cc:Nat)(ev:Value)(d:Dt)(i:Int)(w:World)(hr:Right b)(h:At w ca (b.clock.map I)):
  Calls prog 207 #[batV b ca cc ev,I i,dotV d] w fun e w'=>e= .returned (.bool (cov b d i))∧Below w.heap.size w w':=by
 have hl:=hr.len;by_cases hin:0<=d.o∧d.o<b.clock.length∧0<=d.i∧d.i<5
 ·obtain⟨h0,h1,h3,h4⟩:=hin
  by_cases hown:d.o=b.o∧d.s=b.s
  ·have e:cov b d i=decide (d.i<i):=by
    have:=hr.seq;have:=hr.own
    simp only [cov,inD,hown.1,hown.2,hr.lo,hr.hi,hr.seq,h3,h4,hr.own];simp;omega
   rw [e];have:=ztq b.o b.s b.t ca b.clock.length cc ev d.i i w (by omega) hr.lo (by have:=hr.hi;omega) h3 (by omega);have ed:dotV d= .agg #[I b.o,I b.s,I d.i]:=by rw [←hown.1,←hown.2]
   rw [ed];exact this
  ·obtain⟨k,hk⟩:=aN h0
   have hk':k<b.clock.length:=by omega
   obtain⟨p,q,rfl,hp,hc⟩:=zq7 h hk'
   have hx:((k:Int)==b.o)=false∨(d.s==b.s)=false:=by
    simp only [beq_eq_false_iff_ne];omega
   have:=zxs b.o b.s b.t p q b.clock.length cc k _ ev d.s d.i i w (by omega) hk' hc hp h3 (by omega) hx
   have e:cov b d i=(decide (1<=d.s) && decide (d.s<=b.clock.getD k 0)):=by
    have hf:((d.o==b.o) && (d.s==b.s) && decide (d.i<i))=false:=by
     rcases hx with hx | hx
     ·rw [hk,hx];rfl
     ·rw [hx];simp
    simp only [cov,inD,h3,h4,hf];rw [hk];simp [hk']
   rw [e];rw [←hk] at this;exact this
 ·have e:cov b d i=false:=by
   simp only [cov,inD];rw [Bool.and_eq_false_iff];left;simp only [Bool.and_eq_false_iff,decide_eq_false_iff_not];omega
  rw [e];exact ztr b.o b.s b.t ca _ cc ev d i w (by omega) hin
theorem znq(h0 h1 h2 h3 h4:Value)(i use:Int)(w:World):
  Calls prog 193 #[.agg #[h0,h1,h2,h3,h4],I i, .agg #[I 0,I 0,I 0],I use] w fun e w'=>e= .returned (.bool (!(use==2)))∧Below w.heap.size w w':=by
 go_enter func193,ntmps193;go_wp2_with fail
 go_ret;exact⟨rfl,((Below.refl _ _).alloc (ac _) _).alloc (by simp) _⟩
attribute [local go_sem ↓] zfk zfi
theorem znp(b:Bt)(ca:Option Addr)(cc:Nat)(ev:Value)(d:Dt)(i use:Int)(w:World)(hr:Right b)(h:At w ca (b.clock.map I))(hn:noneD d=false):
  Calls prog 193 #[batV b ca cc ev,I i,dotV d,I use] w fun e w'=>e= .returned (.bool (!(use==0) && cov b d i))∧Below w.heap.size w w':=by
 have hn':eq3 d.o d.s d.i 0 0 0=false:=hn;have hk:Hid (At w ca (b.clock.map I)):=h;have hr':Hid (Right b):=hr;clear hn h hr;cases hu:(use==0)
 ·have hu':(use !=0)=true:=by simpa using hu
  go_enter func193,ntmps193;go_wp2_with (go_at_call 207;refine(zd5 b ca cc ev d i _ hr'.out ?_).mono ?_;exact hk.out.kept (((Below.refl _ _).alloc (ac _) _).alloc (by simp) _);rintro e w' ⟨rfl,h⟩)
  go_ret;exact⟨rfl,(((Below.refl _ _).alloc (ac _) _).alloc (by simp) _).trans (h.mono (by simp;omega))⟩
 ·have hu':(use !=0)=false:=by simpa using hu
  go_enter func193,ntmps193;go_wp2_with fail
  go_ret;exact⟨rfl,((Below.refl _ _).alloc (ac _) _).alloc (by simp) _⟩
theorem zfm(b:Bt)(ca:Option Addr)(cc:Nat)(ev:Value)(d:Dt)(i use:Int)(w:World)(hr:Right b)(h:At w ca (b.clock.map I)):
  Calls prog 193 #[batV b ca cc ev,I i,dotV d,I use] w fun e w'=>e= .returned (.bool (refOk b i d use))∧Below w.heap.size w w':=by
 cases hn:noneD d
 ·have e:refOk b i d use=(!(use==0) && cov b d i):=by simp [refOk,hn]
  rw [e];exact znp b ca cc ev d i use w hr h hn
 ·have e:refOk b i d use= !(use==2):=by simp [refOk,hn]
  rw [e]
  have ed:dotV d= .agg #[I 0,I 0,I 0]:=by
   simp only [noneD,ak,beq_iff_eq] at hn;rw [dotV,hn.1.1,hn.1.2,hn.2]
  rw [ed];exact znq _ _ _ _ _ i use w
