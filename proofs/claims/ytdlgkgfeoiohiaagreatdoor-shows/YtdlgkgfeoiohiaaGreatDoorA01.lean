/- Part 1. -/
import GoSem.Core.World
import Derived.Test.YtdlgkgfeoiohiaaGreatDoorProg
import Derived.WalkKit
import Derived.WalkSpells
import Derived.WalkLawsBesides
import Derived.Deep.QuietTactic
import Derived.BigQuiet
import Derived.Deep.LoopGhost
import Derived.Lib.AppendStr
import Derived.Deep.RegionLaw
open Bool renaming false -> Zl,true -> Zn
open Go renaming World -> Ze,Calls -> Zh,Value -> Zk,Operand -> Zt,info_parts -> Zu
open Go.Ending renaming returned -> Zy
open Go.Oper renaming wp -> Zr
open Go.Region renaming wanted -> Zo
open Go.Result renaming andThen -> ZD
open Go.RowKit.Below renaming heap_alloc -> Zw,heap_setCell -> Zx
open Go.World renaming setCell -> Zv
open Go.World.ownsRow renaming lt -> ZG,alloc -> ZH,cells -> ZI,kept -> ZJ
open List renaming length_append -> Zq,getElem?_eq_getElem -> Zz
open Nat renaming le_refl -> ZA,le_trans -> ZB,mul_one -> ZC
open Option renaming some -> Za,none -> Zd
open UInt8 renaming ofNat -> ZE
open _root_ renaming Nat -> O,Int -> Zb,ByteArray -> Zc,List -> Zf,Bool -> Zg,UInt8 -> Zi,if_neg -> Zj,if_pos -> Zm,beq_eq_false_iff_ne -> Zp
namespace Go.Proofs.YtdlgkgfeoiohiaaGreatDoor
set_option linter.unusedVariables false
set_option maxHeartbeats 16000000
set_option maxRecDepth 100000
open Go.RowKit Tryz
def XX (p:Prop):Prop:=p
theorem XX.o {p:Prop}(h:XX p):p:=h
variable {b k N:O}{s:Zc}{x y w z:Ze}{bad d:Zb}{lg:Zg}{v:Zk}{l:Zf Zi}{ops:Array Oper}{o:Oper}{a:Act}{Q:Exit->Act->Ze->Prop}{rest:Zf Oper}{K:Act->Ze->Prop}{E:Prop}
namespace J
def gb(s:Zc)(k:O):Zb:=if h:k<s.size then((s[k]'h).toNat:Zb)else -1
theorem pR(h:k<s.size):gb s k=((s[k]'h).toNat:Zb):=by simp[gb,h]
theorem nS(h:s.size<=k):gb s k=-1:=by simp[gb,O.not_lt.2 h]
theorem iN(s:Zc)(k:O):-1<=gb s k/\gb s k<=255:=by
 unfold gb;split
 .rename_i h;have:=(s[k]'h).toNat_lt;omega
 .omega
theorem cC(h:0<=gb s k):k<s.size:=by
 unfold gb at h;split at h
 .assumption
 .omega
def kT(c:Zb):Zg:=c==32 || c==9 || c==10 || c==13
def tA(s:Zc):O->O->O
 |0,k=>k
 |f+1,k=>if kT (gb s k)then tA s f (k+1)else k
def ak(s:Zc)(k:O):O:=tA s (s.size-k) k
theorem afO(h:kT (gb s k)=Zn):k<s.size:=by
 apply cC;simp[kT]at h;omega
theorem Ak(h:kT (gb s k)=Zn):ak s k=ak s (k+1):=by
 have hk:=afO h;unfold ak;rw[show s.size-k=(s.size-(k+1))+1 from by omega];simp[tA,h]
theorem uH(h:kT (gb s k)=Zl):ak s k=k:=by
 unfold ak;cases s.size-k with
 |zero=>rfl
 |succ n=>simp[tA,h]
theorem NG(s:Zc):∀f k,k<=tA s f k/\tA s f k<=k+f
 |0,k=>by simp[tA]
 |f+1,k=>by
  simp only[tA];split
  .have:=NG s f (k+1);omega
  .omega
theorem fJ(s:Zc)(k:O):k<=ak s k:=(NG s _ k).1
theorem iH(s:Zc)(k:O)(h:k<=s.size):ak s k<=s.size:=by
 have:=(NG s (s.size-k) k).2;unfold ak;omega
theorem UN(s:Zc):∀f k,s.size<=k+f->kT (gb s (tA s f k))=Zl
 |0,k,h=>by simp[tA,nS (show s.size<=k by omega)];rfl
 |f+1,k,h=>by
  simp only[tA];split
  .exact UN s f (k+1) (by omega)
  .rename_i hh;simpa using hh
theorem UO(s:Zc)(k:O):kT (gb s (ak s k))=Zl:=UN s _ k (by omega)
theorem CK(s:Zc)(k:O):ak s (ak s k)=ak s k:=uH (UO s k)
def cR(c:Zb):Zb:=
 if 48<=c/\c<=57 then c-48 else if 97<=c/\c<=102 then c-87 else if 65<=c/\c<=70 then c-55 else -1
def aK(c:Zb):Zg:=decide (48<=c)&&decide (c<=57)
def tw(s:Zc):O->O->O
 |0,k=>k
 |f+1,k=>if aK (gb s k)then tw s f (k+1)else k
def aA(s:Zc)(k:O):O:=tw s (s.size-k) k
theorem zT(h:aK (gb s k)=Zn):k<s.size:=by
 apply cC;simp[aK]at h;omega
theorem uG(h:aK (gb s k)=Zn):aA s k=aA s (k+1):=by
 have hk:=zT h;unfold aA;rw[show s.size-k=(s.size-(k+1))+1 from by omega];simp[tw,h]
theorem FE(h:aK (gb s k)=Zl):aA s k=k:=by
 unfold aA;cases s.size-k with
 |zero=>rfl
 |succ n=>simp[tw,h]
theorem NA(s:Zc):∀f k,k<=tw s f k/\tw s f k<=k+f
 |0,k=>by simp[tw]
 |f+1,k=>by
  simp only[tw];split
  .have:=NA s f (k+1);omega
  .omega
theorem qh(s:Zc)(k:O):k<=aA s k:=(NA s _ k).1
theorem nK(s:Zc)(k:O)(h:k<=s.size):aA s k<=s.size:=by
 have:=(NA s (s.size-k) k).2;unfold aA;omega
end J
open J
section
open Go.RowKit
def ab(b:O)(w w':Ze):Prop:=w.grownBy w' (Za b)
theorem ab.refl(b:O)(w:Ze):ab b w w:=⟨rfl,rfl,rfl,ZA _,λ_ _ _=>rfl⟩
theorem ab.trans(h:ab b x y)(k:ab b y z):ab b x z:=
 ⟨k.os.trans h.os,k.tape.trans h.tape,k.output.trans h.output,ZB h.size k.size,λi hi hn=>(k.block i (O.lt_of_lt_of_le hi h.size) hn).trans (h.block i hi hn)⟩
theorem ab.drewN(h:ab b x y)(n:O):ab b x (y.drewN n):=⟨h.os,h.tape,h.output,h.size,h.block⟩
theorem ab.drew(h:ab b x y):ab b x y.drew:=⟨h.os,h.tape,h.output,h.size,h.block⟩
theorem ab.setCell(h:ab b x y)(o:O)(v:Zk):ab b x (y.setCell ⟨b,o,Zd⟩ v):=
 h.trans ⟨rfl,rfl,rfl,by simp[Zv],λk _ hn=>Zx _ _ _ _ (by intro e;apply hn;rw[e])⟩
theorem ab.alloc(h:ab b x y)(o:Obj):ab b x (y.alloc o):=
 h.trans ⟨rfl,rfl,rfl,by simp,λk hk _=>Zw _ _ _ hk⟩
theorem ab.of_below(h:ab b x y)(k:Below y.heap.size y z):ab b x z:=
 h.trans ⟨k.os,k.tape,k.output,k.size,λi hi _=>k.block i hi⟩
theorem ab.below{B:O}(h:ab b x y)(hb:B<=b)(hs:B<=x.heap.size):Below B x y:=
 ⟨h.os,h.tape,h.output,h.size,λk hk=>h.block k (by omega) (by intro e;injection e;omega)⟩
def aq(s:Zc)(k:O)(d bad:Zb)(lg:Zg):Obj:=
 .cells #[.string s,.int .i64 k,.int .i64 d,.int .i64 bad,.bool lg] 167 (0,0)
theorem fS(h:w.heap[b]?=Za (aq s k d bad lg)):
 w.cell? ⟨b,0,Zd⟩=Za (.string s)/\w.cell? ⟨b,1,Zd⟩=Za (.int .i64 k)/\w.cell? ⟨b,2,Zd⟩=Za (.int .i64 d)/\w.cell? ⟨b,3,Zd⟩=Za (.int .i64 bad) /\
 w.cell? ⟨b,4,Zd⟩=Za (.bool lg)/\∀o,w.frozen? ⟨b,o,Zd⟩=Zl:=by
 refine⟨?_,?_,?_,?_,?_,λo=>?_⟩ <;> simp[Ze.cell?,Ze.frozen?,h,aq]
theorem cY{o:O}{c:Array Zk}{t:TypeId}{f:O×O}(h:w.heap[b]?=Za (.cells c t f))(v:Zk):
 (w.setCell ⟨b,o,Zd⟩ v).heap[b]?=Za (.cells (c.setIfInBounds o v) t f):=by
 simp[Zv,Array.getElem?_modify,h]
theorem ml(h:w.heap[b]?=Za (aq s k d bad lg))(k':O){i:Zb}(e:i=(k':Zb)):
 (w.setCell ⟨b,1,Zd⟩ (.int .i64 i)).heap[b]?=Za (aq s k' d bad lg):=by
 subst e;exact cY h _
theorem xQ(h:w.heap[b]?=Za (aq s k d bad lg))(d':Zb):
 (w.setCell ⟨b,2,Zd⟩ (.int .i64 d')).heap[b]?=Za (aq s k d' bad lg):=cY h _
theorem air(h:w.heap[b]?=Za (aq s k d bad lg))(bad':Zb):
 (w.setCell ⟨b,3,Zd⟩ (.int .i64 bad')).heap[b]?=Za (aq s k d bad' lg):=cY h _
theorem Ux(h:w.heap[b]?=Za (aq s k d bad lg))(lg':Zg):
 (w.setCell ⟨b,4,Zd⟩ (.bool lg')).heap[b]?=Za (aq s k d bad lg'):=cY h _
def pt(b:O):Zk:=.pointer (Za ⟨b,0,Zd⟩)
end
theorem CG{a b:Zb}(h:a=b):Zy (.int .i64 a)=.returned (.int .i64 b):=by rw[h]
theorem akc(u:Zi):wrap64 (u.toNat:Zb)=(u.toNat:Zb):=by have:=u.toNat_lt;unfold wrap64;omega
theorem aim{a b:Zg}(h:a=b):Zy (.bool a)=.returned (.bool b):=by rw[h]
theorem ug(b:O)(s:Zc)(k:O)(d:Zb)(lg:Zg)(w:Ze)(hb:w.heap[b]?=Za (aq s k d (-1) lg)):
 Zh prog 129 #[.pointer (Za ⟨b,0,Zd⟩)] w λe w'=>e=.returned (.tuple #[])/\ab b w w'/\w'.heap[b]?=Za (aq s k d k lg):=by
 obtain⟨h0,h1,h2,h3,h4,hf⟩:=fS hb;have HB:XX (w.heap[b]?=Za (aq s k d (-1) lg)):=hb;clear hb;go_enter func129,ntmps129;go_wp2
 go_end0
 exact⟨rfl,(ab.refl _ _).setCell _ _,air HB.o _⟩
theorem KU(b:O)(s:Zc)(k:O)(d bad:Zb)(lg:Zg)(w:Ze)(hb:w.heap[b]?=Za (aq s k d bad lg))(bU:0<=bad):
 Zh prog 129 #[.pointer (Za ⟨b,0,Zd⟩)] w λe w'=>e=.returned (.tuple #[])/\w=w':=by
 obtain⟨h0,h1,h2,h3,h4,hf⟩:=fS hb;clear hb;go_enter func129,ntmps129;go_wp2
 go_end0
 exact⟨rfl,rfl⟩
def cv(s:Zc)(k:O)(bad:Zb):Zb:=if 0<=bad then -1 else gb s k
theorem ct(s:Zc)(k:O):cv s k (-1)=gb s k:=by simp[cv]
theorem ro(s:Zc)(k:O)(h:0<=bad):cv s k bad=-1:=by simp[cv,h]
theorem yU(s:Zc)(k:O)(bad:Zb):-1<=cv s k bad/\cv s k bad<=255:=by
 unfold cv;split
 .omega
 .exact iN s k
theorem dC(b:O)(s:Zc)(k:O)(d bad:Zb)(lg:Zg)(w:Ze)(hb:w.heap[b]?=Za (aq s k d bad lg)):
 Zh prog 121 #[.pointer (Za ⟨b,0,Zd⟩)] w λe w'=>e=.returned (.int .i64 (cv s k bad))/\∃n,w'=w.drewN n:=by
 obtain⟨h0,h1,h2,h3,h4,hf⟩:=fS hb;clear hb h2 h4 hf;by_cases bU:0<=bad
 .go_enter func121,ntmps121;go_wp2;go_quiet (fail);go_wp2;go_ret;exact⟨CG (ro s k bU).symm,_,rfl⟩
 .have xn:bad<0:=by omega
  by_cases hk:k<s.size
  .have HC:XX (cv s k bad=((s[k]'hk).toNat:Zb)):=by show cv s k bad=_;rw[cv,Zj bU,pR hk]
   go_enter func121,ntmps121;go_wp2;go_quiet (fail);go_wp2;go_quiet (fail);go_wp2;go_ret;exact⟨CG ((akc _).trans HC.o.symm),_,Ze.drewN_drewN _ _ _⟩
  .have HC:XX (cv s k bad=-1):=by show cv s k bad=_;rw[cv,Zj bU,nS (by omega)]
   have jo:(s.size:Zb)<=k:=by omega
   go_enter func121,ntmps121;go_wp2;go_quiet (fail);go_wp2;go_ret;exact⟨CG HC.o.symm,_,rfl⟩
theorem I4(b:O)(s:Zc)(k:O)(d bad:Zb)(lg:Zg)(c:Zb)(w:Ze)(hb:w.heap[b]?=Za (aq s k d bad lg))(hc:cv s k bad=c)(h0c:0<=c)(hk:k<100000):
 Zh prog 174 #[.pointer (Za ⟨b,0,Zd⟩),.int .u8 c] w λe w'=>e=.returned (.bool Zn)/\ab b w w'/\w'.heap[b]?=Za (aq s (k+1) d bad lg):=by
 obtain⟨h0,h1,h2,h3,h4,hf⟩:=fS hb;have HB:XX (w.heap[b]?=Za (aq s k d bad lg)):=hb;have bF:=yU s k bad;have HC:XX (cv s k bad=c):=hc;rw[hc]at bF;clear hb h2 h4 h0 h3 hc;go_enter func174,ntmps174;go_wp2_with (go_at_call 121;refine(dC b s k d bad lg _ (by exact HB.o)).mono ?_;rintro e w' ⟨rfl,n,rfl⟩;rw[HC.o])
 go_ret;exact⟨rfl,((ab.refl _ _).drewN _).setCell _ _,ml (w:=w.drewN _) HB.o (k+1) (by omega)⟩
theorem xV(b:O)(s:Zc)(k:O)(d bad:Zb)(lg:Zg)(c:Zb)(w:Ze)(hb:w.heap[b]?=Za (aq s k d bad lg))(hc:cv s k bad≠c)(fW:0<=c)(cU:c<=255):
 Zh prog 174 #[.pointer (Za ⟨b,0,Zd⟩),.int .u8 c] w λe w'=>e=.returned (.bool Zl)/\ab b w w'/\w'.heap[b]?=Za (aq s k d bad lg):=by
 have HB:XX (w.heap[b]?=Za (aq s k d bad lg)):=hb;have bF:=yU s k bad;have bj:(cv s k bad==c)=Zl:=Zp.2 hc;clear hb hc;go_enter func174,ntmps174;go_wp2_with (go_at_call 121;refine(dC b s k d bad lg _ (by exact HB.o)).mono ?_;rintro e w' ⟨rfl,n,rfl⟩)
 go_ret;exact⟨rfl,(ab.refl _ _).drewN _,HB.o⟩
theorem QG(b:O)(s:Zc)(k:O)(d bad:Zb)(lg:Zg)(lo hi:Zb)(w:Ze)(hb:w.heap[b]?=Za (aq s k d bad lg))(h1c:lo<=cv s k bad)(h2c:cv s k bad<=hi)(hk:k<100000):
 Zh prog 216 #[.pointer (Za ⟨b,0,Zd⟩),.int .i64 lo,.int .i64 hi] w λe w'=>e=.returned (.int .i64 (cv s k bad))/\ab b w w'/\w'.heap[b]?=Za (aq s (k+1) d bad lg):=by
 obtain⟨h0,h1,h2,h3,h4,hf⟩:=fS hb;have HB:XX (w.heap[b]?=Za (aq s k d bad lg)):=hb;have bF:=yU s k bad;clear hb h2 h4 h0 h3;go_enter func216,ntmps216;go_wp2_with (go_at_call 121;refine(dC b s k d bad lg _ (by exact HB.o)).mono ?_;rintro e w' ⟨rfl,n,rfl⟩)
 go_ret;exact⟨rfl,((ab.refl _ _).drewN _).setCell _ _,ml (w:=w.drewN _) HB.o (k+1) (by omega)⟩
theorem QF(b:O)(s:Zc)(k:O)(d:Zb)(lg:Zg)(lo hi:Zb)(w:Ze)(hb:w.heap[b]?=Za (aq s k d (-1) lg))(hc:gb s k<lo\/hi<gb s k):
 Zh prog 216 #[.pointer (Za ⟨b,0,Zd⟩),.int .i64 lo,.int .i64 hi] w λe w'=>e=.returned (.int .i64 0)/\ab b w w'/\w'.heap[b]?=Za (aq s k d k lg):=by
 have HB:XX (w.heap[b]?=Za (aq s k d (-1) lg)):=hb;have bF:=iN s k;clear hb;rcases hc with hc|hc
 all_goals
  go_enter func216,ntmps216;go_wp2_with (first|(go_at_call 121;refine(dC b s k d (-1) lg _ (by exact HB.o)).mono ?_;rintro e w' ⟨rfl,n,rfl⟩;rw[ct])|(go_at_call 129;refine(ug b s k d lg _ (by exact HB.o)).mono ?_;rintro e w' ⟨rfl,ar,cd⟩))
  all_goals
   go_ret;exact⟨rfl,((ab.refl _ _).drewN _).trans ar,cd⟩
theorem acZ(b:O)(s:Zc)(k:O)(d bad:Zb)(lg:Zg)(lo hi:Zb)(w:Ze)(hb:w.heap[b]?=Za (aq s k d bad lg))(bU:0<=bad)(ik:0<=lo):
 Zh prog 216 #[.pointer (Za ⟨b,0,Zd⟩),.int .i64 lo,.int .i64 hi] w λe w'=>e=.returned (.int .i64 0)/\ab b w w'/\w'.heap[b]?=Za (aq s k d bad lg):=by
 have HB:XX (w.heap[b]?=Za (aq s k d bad lg)):=hb;have HD:XX (0<=bad):=bU;have ai:(-1:Zb)<lo:=by omega
 clear hb;go_enter func216,ntmps216;go_wp2_with (first|(go_at_call 121;refine(dC b s k d bad lg _ (by exact HB.o)).mono ?_;rintro e w' ⟨rfl,n,rfl⟩;rw[ro s k HD.o])|(go_at_call 129;refine(KU b s k d bad lg _ (by exact HB.o) HD.o).mono ?_;rintro e w' ⟨rfl,rfl⟩))
 go_ret;exact⟨rfl,(ab.refl _ _).drewN _,HB.o⟩
theorem xu(c:Zb):-1<=cR c/\cR c<=15:=by unfold cR;repeat' split <;> omega
theorem ad8(b:O)(s:Zc)(k:O)(d bad:Zb)(lg:Zg)(lo hi:Zb)(w:Ze)(hb:w.heap[b]?=Za (aq s k d bad lg))(h0:0<=cR (cv s k bad))(h1:lo<=cR (cv s k bad))(h2:cR (cv s k bad)<=hi)(hk:k<100000):
 Zh prog 236 #[.pointer (Za ⟨b,0,Zd⟩),.int .i64 lo,.int .i64 hi] w λe w'=>e=.returned (.int .i64 (cR (cv s k bad)))/\ab b w w'/\w'.heap[b]?=Za (aq s (k+1) d bad lg):=by
 obtain⟨g0,g1,g2,g3,g4,hf⟩:=fS hb;have HB:XX (w.heap[b]?=Za (aq s k d bad lg)):=hb;have bF:=yU s k bad;obtain⟨c,hc⟩:∃c,c=cv s k bad:=⟨_,rfl⟩
 rw[<-hc]at h0 h1 h2 bF⊢;have HC:XX (c=cv s k bad):=hc;clear hb g2 g4 g0 g3 hc;rcases(show(48<=c/\c<=57)\/(97<=c/\c<=102)\/(65<=c/\c<=70)\/cR c=-1 from by unfold cR;repeat' split <;> omega)with hr|hr|hr|hr
 .have hd:cR c=c-48:=by unfold cR;rw[Zm hr]
  rw[hd]at h0 h1 h2⊢;clear hd;obtain⟨r1,r2⟩:=hr;go_enter func236,ntmps236;go_wp2_with (go_at_call 121;refine(dC b s k d bad lg _ (by exact HB.o)).mono ?_;rintro e w' ⟨rfl,n,rfl⟩;rw[<-HC.o])
  go_ret;exact⟨rfl,((ab.refl _ _).drewN _).setCell _ _,ml (w:=w.drewN _) HB.o (k+1) (by omega)⟩
 .have hd:cR c=c-97+10:=by unfold cR;rw[Zj (by omega),Zm hr];omega
  rw[hd]at h0 h1 h2⊢;clear hd;obtain⟨r1,r2⟩:=hr;go_enter func236,ntmps236;go_wp2_with (go_at_call 121;refine(dC b s k d bad lg _ (by exact HB.o)).mono ?_;rintro e w' ⟨rfl,n,rfl⟩;rw[<-HC.o])
  go_ret;exact⟨rfl,((ab.refl _ _).drewN _).setCell _ _,ml (w:=w.drewN _) HB.o (k+1) (by omega)⟩
 .have hd:cR c=c-65+10:=by unfold cR;rw[Zj (by omega),Zj (by omega),Zm hr];omega
  rw[hd]at h0 h1 h2⊢;clear hd;obtain⟨r1,r2⟩:=hr;go_enter func236,ntmps236;go_wp2_with (go_at_call 121;refine(dC b s k d bad lg _ (by exact HB.o)).mono ?_;rintro e w' ⟨rfl,n,rfl⟩;rw[<-HC.o])
  go_ret;exact⟨rfl,((ab.refl _ _).drewN _).setCell _ _,ml (w:=w.drewN _) HB.o (k+1) (by omega)⟩
 .omega
def oA(k:O)(bad:Zb):Zb:=if 0<=bad then bad else k
theorem rp(k:O):oA k (-1)=k:=by simp[oA]
theorem xd(k:O)(h:0<=bad):oA k bad=bad:=by simp[oA,h]
theorem Ed(b:O)(s:Zc)(k:O)(d bad:Zb)(lg:Zg)(w:Ze)(hb:w.heap[b]?=Za (aq s k d bad lg))(bU:-1<=bad):
 Zh prog 129 #[.pointer (Za ⟨b,0,Zd⟩)] w λe w'=>e=.returned (.tuple #[])/\ab b w w'/\w'.heap[b]?=Za (aq s k d (oA k bad) lg):=by
 by_cases h:0<=bad
 .refine(KU b s k d bad lg w hb h).mono ?_;rintro e w' ⟨rfl,rfl⟩;exact⟨rfl,ab.refl _ _,by rw[xd k h];exact hb⟩
 .have:bad=-1:=by omega
  subst this;refine(ug b s k d lg w hb).mono ?_;rintro e w' ⟨rfl,h1,h2⟩;exact⟨rfl,h1,by rw[rp];exact h2⟩
theorem ad7(b:O)(s:Zc)(k:O)(d bad:Zb)(lg:Zg)(lo hi:Zb)(w:Ze)(hb:w.heap[b]?=Za (aq s k d bad lg))(bU:-1<=bad)(hn:cR (cv s k bad)<lo\/hi<cR (cv s k bad)\/cR (cv s k bad)<0):
 Zh prog 236 #[.pointer (Za ⟨b,0,Zd⟩),.int .i64 lo,.int .i64 hi] w λe w'=>e=.returned (.int .i64 0)/\ab b w w'/\w'.heap[b]?=Za (aq s k d (oA k bad) lg):=by
 have HB:XX (w.heap[b]?=Za (aq s k d bad lg)):=hb;have bF:=yU s k bad;obtain⟨c,hc⟩:∃c,c=cv s k bad:=⟨_,rfl⟩
 rw[<-hc]at hn bF;have HC:XX (c=cv s k bad):=hc;clear hb hc;rcases(show(48<=c/\c<=57)\/(97<=c/\c<=102)\/(65<=c/\c<=70)\/(c<48\/(57<c/\c<65)\/(70<c/\c<97)\/102<c)from by omega)with hr|hr|hr|hr
 .have hd:cR c=c-48:=by unfold cR;rw[Zm hr]
  rw[hd]at hn;clear hd;obtain⟨r1,r2⟩:=hr;by_cases ik:c-48<lo
  all_goals
   have R7:¬(lo<=c-48/\c-48<=hi):=by omega
   clear hn
   try have rC:hi<c-48:=by omega
   go_enter func236,ntmps236;go_wp2_with (first|(go_at_call 121;refine(dC b s k d bad lg _ (by exact HB.o)).mono ?_;rintro e w' ⟨rfl,n,rfl⟩;rw[<-HC.o])|(go_at_call 129;refine(Ed b s k d bad lg _ (by exact HB.o) bU).mono ?_;rintro e w' ⟨rfl,ar,cd⟩))
   go_ret;exact⟨rfl,((ab.refl _ _).drewN _).trans ar,cd⟩
 .have hd:cR c=c-97+10:=by unfold cR;rw[Zj (by omega),Zm hr];omega
  rw[hd]at hn;clear hd;obtain⟨r1,r2⟩:=hr;by_cases ik:c-97+10<lo
  all_goals
   have R7:¬(lo<=c-97+10/\c-97+10<=hi):=by omega
   clear hn
   try have rC:hi<c-97+10:=by omega
   go_enter func236,ntmps236;go_wp2_with (first|(go_at_call 121;refine(dC b s k d bad lg _ (by exact HB.o)).mono ?_;rintro e w' ⟨rfl,n,rfl⟩;rw[<-HC.o])|(go_at_call 129;refine(Ed b s k d bad lg _ (by exact HB.o) bU).mono ?_;rintro e w' ⟨rfl,ar,cd⟩))
   go_ret;exact⟨rfl,((ab.refl _ _).drewN _).trans ar,cd⟩
 .have hd:cR c=c-65+10:=by unfold cR;rw[Zj (by omega),Zj (by omega),Zm hr];omega
  rw[hd]at hn;clear hd;obtain⟨r1,r2⟩:=hr;by_cases ik:c-65+10<lo
  all_goals
   have R7:¬(lo<=c-65+10/\c-65+10<=hi):=by omega
   clear hn
   try have rC:hi<c-65+10:=by omega
   go_enter func236,ntmps236;go_wp2_with (first|(go_at_call 121;refine(dC b s k d bad lg _ (by exact HB.o)).mono ?_;rintro e w' ⟨rfl,n,rfl⟩;rw[<-HC.o])|(go_at_call 129;refine(Ed b s k d bad lg _ (by exact HB.o) bU).mono ?_;rintro e w' ⟨rfl,ar,cd⟩))
   go_ret;exact⟨rfl,((ab.refl _ _).drewN _).trans ar,cd⟩
 .clear hn;by_cases ik:(-1:Zb)<lo
  all_goals
   by_cases rC:hi<(-1:Zb)
   all_goals
    rcases hr with hr|hr|hr|hr
    all_goals
     try obtain⟨hr,fh⟩:=hr
     go_enter func236,ntmps236;go_wp2_with (first|(go_at_call 121;refine(dC b s k d bad lg _ (by exact HB.o)).mono ?_;rintro e w' ⟨rfl,n,rfl⟩;rw[<-HC.o])|(go_at_call 129;refine(Ed b s k d bad lg _ (by exact HB.o) bU).mono ?_;rintro e w' ⟨rfl,ar,cd⟩))
     go_ret;exact⟨rfl,((ab.refl _ _).drewN _).trans ar,cd⟩
theorem rm(b:O)(s:Zc)(k:O)(d bad:Zb)(lg:Zg)(w:Ze)(hb:w.heap[b]?=Za (aq s k d bad lg))(bU:0<=bad):
 Zh prog 79 #[.pointer (Za ⟨b,0,Zd⟩)] w λe w'=>e=.returned (.tuple #[])/\ab b w w'/\w'.heap[b]?=Za (aq s k d bad lg):=by
 have HB:XX (w.heap[b]?=Za (aq s k d bad lg)):=hb;have HD:XX (0<=bad):=bU;clear hb bU;go_enter func79,ntmps79;go_wp2_with fail;refine wp_loop_rounds 1 ?_;rw[rounds_succ];go_wp2_with (go_at_call 121;refine(dC b s k d bad lg _ (by exact HB.o)).mono ?_;rintro e w' ⟨rfl,n,rfl⟩;rw[ro s k HD.o])
 go_end0
 exact⟨rfl,(ab.refl _ _).drewN _,HB.o⟩
theorem rn(b:O)(s:Zc)(k:O)(d:Zb)(lg:Zg)(w:Ze)(hb:w.heap[b]?=Za (aq s k d (-1) lg))(hs:s.size<=1000):
 Zh prog 79 #[.pointer (Za ⟨b,0,Zd⟩)] w λe w'=>e=.returned (.tuple #[])/\ab b w w'/\w'.heap[b]?=Za (aq s (ak s k) d (-1) lg):=by
 go_enter func79,ntmps79;go_wp2_with fail;go_loopg [] (s.size-k) (λg wr=>∃j:O,g=s.size-j/\ak s j=ak s k/\ab b w wr/\wr.heap[b]?=Za (aq s j d (-1) lg))
 case atStart=>exact⟨k,rfl,rfl,ab.refl _ _,hb⟩
 case round=>
  obtain⟨j,hg,eQ,ar,ae⟩:=hrel;clear hb;obtain⟨g0,g1,g2,g3,g4,hf⟩:=fS ae;have HB:XX (wr.heap[b]?=Za (aq s j d (-1) lg)):=ae;have HG:XX (gk=s.size-j):=hg;have HS:XX (ak s j=ak s k):=eQ;obtain⟨c,hc⟩:∃c,c=gb s j:=⟨_,rfl⟩
  have bF:=iN s j;rw[<-hc]at bF;have l9:0<=c->j<s.size:=λh=>cC (by omega)
  have HC:XX (c=gb s j):=hc;clear ae hg eQ hc g0 g2 g3 g4;rcases(show c=32\/c=9\/c=10\/c=13\/(c≠32/\c≠9/\c≠10/\c≠13)from by omega)with rfl|rfl|rfl|rfl|hn
  iterate 4
   .have hj:=l9 (by omega);clear bF l9;go_wp2_with (go_at_call 121;refine(dC b s j d (-1) lg _ (by exact HB.o)).mono ?_;rintro e w' ⟨rfl,n,rfl⟩;rw[ct,<-HC.o])
    go_roundg (s.size-(j+1))
    case measure=>rw[HG.o];omega
    case rel=>exact⟨j+1,rfl,by rw[<-HS.o];exact(Ak (by rw[<-HC.o];rfl)).symm,(ar.drewN _).setCell _ _,ml (w:=wr.drewN _) HB.o (j+1) (by omega)⟩
  .have e1:(c==32)=Zl:=Zp.2 hn.1;have e2:(c==9)=Zl:=Zp.2 hn.2.1;have e3:(c==10)=Zl:=Zp.2 hn.2.2.1;have e4:(c==13)=Zl:=Zp.2 hn.2.2.2;clear l9 hn;have oV:XX (ak s k=j):=by show ak s k=j;rw[<-HS.o];exact uH (by rw[<-HC.o];simp[kT,e1,e2,e3,e4])
   go_wp2_with (go_at_call 121;refine(dC b s j d (-1) lg _ (by exact HB.o)).mono ?_;rintro e w' ⟨rfl,n,rfl⟩;rw[ct,<-HC.o])
   go_end0
   exact⟨rfl,ar.drewN _,by rw[oV.o];exact HB.o⟩
def bQ(s:Zc)(k:O)(bad lo hi:Zb):Zb×O×Zb:=
 if cR (cv s k bad)<lo\/hi<cR (cv s k bad)\/cR (cv s k bad)<0 then(0,k,oA k bad)else(cR (cv s k bad),k+1,bad)
theorem qC(h:0<=cv s k bad):k<s.size/\bad<0:=by
 unfold cv at h;split at h
 .omega
 .exact⟨cC h,by omega⟩
theorem Hw{c:Zb}(h:c<0):cR c=-1:=by unfold cR;rw[Zj (by omega),Zj (by omega),Zj (by omega)]
theorem ad4(b:O)(s:Zc)(k:O)(d bad:Zb)(lg:Zg)(lo hi:Zb)(w:Ze)(hb:w.heap[b]?=Za (aq s k d bad lg))(hs:s.size<=1000)(bU:-1<=bad):
 Zh prog 236 #[.pointer (Za ⟨b,0,Zd⟩),.int .i64 lo,.int .i64 hi] w λe w'=>e=.returned (.int .i64 (bQ s k bad lo hi).1)/\ab b w w'/\w'.heap[b]?=Za (aq s (bQ s k bad lo hi).2.1 d (bQ s k bad lo hi).2.2 lg):=by
 by_cases h:cR (cv s k bad)<lo\/hi<cR (cv s k bad)\/cR (cv s k bad)<0
 .have e:bQ s k bad lo hi=(0,k,oA k bad):=by unfold bQ;rw[Zm h]
  rw[e];exact ad7 b s k d bad lg lo hi w hb bU h
 .have e:bQ s k bad lo hi=(cR (cv s k bad),k+1,bad):=by unfold bQ;rw[Zj h]
  rw[e];have h0:0<=cv s k bad:=by
   rcases Zb.lt_or_le (cv s k bad) 0 with hh|hh
   .have:=Hw hh;omega
   .exact hh
  have:=(qC h0).1;exact ad8 b s k d bad lg lo hi w hb (by omega) (by omega) (by omega) (by omega)
theorem Br:0<=oA k bad:=by unfold oA;split <;> omega
theorem ad3(s:Zc)(k:O)(bad lo hi:Zb)(bU:-1<=bad):0<=(bQ s k bad lo hi).1/\(bQ s k bad lo hi).1<=15/\-1<=(bQ s k bad lo hi).2.2:=by
 have hv:=xu (cv s k bad);unfold bQ;split
 .have:=@Br k bad;exact⟨by simp,by simp,by simp;omega⟩
 .exact⟨by simp;omega,by simp;omega,by simpa using bU⟩
def dw(s:Zc)(k:O)(bad lo hi:Zb):Zb×O×Zb:=
 if lo<=cv s k bad/\cv s k bad<=hi then(cv s k bad,k+1,bad)else(0,k,oA k bad)
theorem acY(b:O)(s:Zc)(k:O)(d bad:Zb)(lg:Zg)(lo hi:Zb)(w:Ze)(hb:w.heap[b]?=Za (aq s k d bad lg))(hs:s.size<=1000)(bU:-1<=bad)(ik:0<=lo):
 Zh prog 216 #[.pointer (Za ⟨b,0,Zd⟩),.int .i64 lo,.int .i64 hi] w λe w'=>e=.returned (.int .i64 (dw s k bad lo hi).1)/\ab b w w'/\w'.heap[b]?=Za (aq s (dw s k bad lo hi).2.1 d (dw s k bad lo hi).2.2 lg):=by
 by_cases h:lo<=cv s k bad/\cv s k bad<=hi
 .have e:dw s k bad lo hi=(cv s k bad,k+1,bad):=by unfold dw;rw[Zm h]
  rw[e];have:=(qC (show 0<=cv s k bad by omega)).1;exact QG b s k d bad lg lo hi w hb h.1 h.2 (by omega)
 .have e:dw s k bad lo hi=(0,k,oA k bad):=by unfold dw;rw[Zj h]
  rw[e];by_cases h0:0<=bad
  .rw[xd k h0];exact acZ b s k d bad lg lo hi w hb h0 ik
  .have hm:bad=-1:=by omega
   subst hm;rw[rp];rw[ct]at h;exact QF b s k d lg lo hi w hb (by omega)
theorem acX(s:Zc)(k:O)(bad lo hi:Zb)(bU:-1<=bad)(ik:0<=lo):0<=(dw s k bad lo hi).1/\(dw s k bad lo hi).1<=255/\-1<=(dw s k bad lo hi).2.2:=by
 have hv:=yU s k bad;unfold dw;split
 .exact⟨by simp;omega,by simp;omega,by simpa using bU⟩
 .have:=@Br k bad;exact⟨by simp,by simp,by simp;omega⟩
def aQ(s:Zc):O->Zb->Zf Zi->O×Zb
 |k,bad,[]=>(k,bad)
 |k,bad,c::cs=>if cv s k bad=(c.toNat:Zb)then aQ s (k+1) bad cs else(k,oA k bad)
theorem D9(lit:Zc)(m:O)(h:m<lit.size):lit.data.toList.drop m=lit[m]::lit.data.toList.drop (m+1):=by
 rw[Zf.drop_eq_getElem_cons (by simpa using h)];rfl
theorem akb(b:O)(s lit:Zc)(k:O)(d bad:Zb)(lg:Zg)(w:Ze)(hb:w.heap[b]?=Za (aq s k d bad lg))(hs:s.size<=1000)(bU:-1<=bad)(hl:lit.size<=1000):
 Zh prog 126 #[.pointer (Za ⟨b,0,Zd⟩),.string lit] w λe w'=>e=.returned (.tuple #[])/\ab b w w'/\w'.heap[b]?=Za (aq s (aQ s k bad lit.data.toList).1 d (aQ s k bad lit.data.toList).2 lg):=by
 have dF:XX (w.heap[b]?=Za (aq s k d bad lg)):=hb;have Wp:XX (-1<=bad):=bU;clear hb;go_enter func126,ntmps126;go_wp2_with fail;go_loopg [4] lit.size (λg i wr=>∃m:O,m<=lit.size/\g=lit.size-m/\i=.int .i64 m/\aQ s (k+m) bad (lit.data.toList.drop m)=aQ s k bad lit.data.toList/\ab b w wr/\wr.heap[b]?=Za (aq s (k+m) d bad lg))
 case atStart=>exact⟨0,by omega,by omega,rfl,by simp,ab.refl _ _,dF.o⟩
 case round=>
  obtain⟨m,hm,hg,rfl,hw,ar,ae⟩:=hrel;have HB:XX (wr.heap[b]?=Za (aq s (k+m) d bad lg)):=ae;have HG:XX (gk=lit.size-m):=hg;have HW:XX (aQ s (k+m) bad (lit.data.toList.drop m)=aQ s k bad lit.data.toList):=hw;clear ae hg hw;by_cases ai:m<lit.size
  .obtain⟨c,hc⟩:∃c:Zb,c=((lit[m]'ai).toNat:Zb):=⟨_,rfl⟩
   have adR:=(lit[m]'ai).toNat_lt;by_cases hy:cv s (k+m) bad=((lit[m]'ai).toNat:Zb)
   .have kN:=(qC (show 0<=cv s (k+m) bad by omega)).1;have HY:XX (cv s (k+m) bad=((lit[m]'ai).toNat:Zb)):=hy;have HN:XX (aQ s (k+(m+1)) bad (lit.data.toList.drop (m+1))=aQ s k bad lit.data.toList):=by
     show _=_;rw[<-HW.o,D9 lit m ai,aQ,Zm hy];rfl
    clear hy hc c;go_wp2_with (go_at_call 174;refine(I4 b s (k+m) d bad lg _ _ (by exact HB.o) HY.o (by omega) (by omega)).mono ?_;rintro e w' ⟨rfl,ce,dc⟩)
    go_roundg (lit.size-(m+1))
    case measure=>rw[HG.o];omega
    case rel=>exact⟨m+1,by omega,rfl,by go_num,HN.o,ar.trans ce,dc⟩
   .have HY:XX (cv s (k+m) bad≠((lit[m]'ai).toNat:Zb)):=hy;have HN:XX (aQ s k bad lit.data.toList=(k+m,oA (k+m) bad)):=by
     show _=_;rw[<-HW.o,D9 lit m ai,aQ,Zj hy]
    clear hy hc c;go_wp2_with (first|(go_at_call 174;refine(xV b s (k+m) d bad lg _ _ (by exact HB.o) HY.o (by omega) (by omega)).mono ?_;rintro e w' ⟨rfl,ce,dc⟩)|(go_at_call 129;refine(Ed b s (k+m) d bad lg _ (by assumption) Wp.o).mono ?_;rintro e w' ⟨rfl,bi,di⟩))
    exact bodyPost_ret (results_none rfl _ _ _) rfl ⟨rfl,(ar.trans ce).trans bi,by rw[HN.o];exact di⟩
  .have HN:XX (aQ s k bad lit.data.toList=(k+m,bad)):=by
    show _=_;rw[<-HW.o,Zf.drop_eq_nil_of_le (by simp;omega),aQ]
   go_wp2
   go_end0
   exact⟨rfl,ar,by rw[HN.o];exact HB.o⟩
section
open Go.RowKit
structure bh(N b:O)(w w':Ze):Prop where
 os:w'.os=w.os
 tape:w'.tape=w.tape
 output:w'.output=w.output
 size:w.heap.size<=w'.heap.size
 block:∀k,k<N->k≠b->w'.heap[k]?=w.heap[k]?
theorem bh.refl(N b:O)(w:Ze):bh N b w w:=⟨rfl,rfl,rfl,ZA _,λ_ _ _=>rfl⟩
theorem bh.trans(h:bh N b x y)(k:bh N b y z):bh N b x z:=
 ⟨k.os.trans h.os,k.tape.trans h.tape,k.output.trans h.output,ZB h.size k.size,λi hi hn=>(k.block i hi hn).trans (h.block i hi hn)⟩
theorem bh.of_but(h:ab b x y)(hN:N<=x.heap.size):bh N b x y:=
 ⟨h.os,h.tape,h.output,h.size,λk hk hn=>h.block k (by omega) (by intro e;apply hn;injection e)⟩
theorem bh.but(h:bh x.heap.size b x y):ab b x y:=
 ⟨h.os,h.tape,h.output,h.size,λk hk hn=>h.block k hk (by intro e;apply hn;rw[e])⟩
theorem bh.of_grown{row:Option O}(h:x.grownBy y row)(hN:N<=x.heap.size)(hr:∀k,row=Za k->N<=k):bh N b x y:=
 ⟨h.os,h.tape,h.output,h.size,λk hk _=>h.block k (by omega) (by intro e;have:=hr k e.symm;omega)⟩
theorem bh.alloc(h:bh N b x y)(hN:N<=y.heap.size)(o:Obj):bh N b x (y.alloc o):=
 h.trans ⟨rfl,rfl,rfl,by simp,λk hk _=>Zw _ _ _ (by omega)⟩
theorem bh.drewN(h:bh N b x y)(n:O):bh N b x (y.drewN n):=⟨h.os,h.tape,h.output,h.size,h.block⟩
theorem bh.setCell(h:bh N b x y)(o:O)(v:Zk):bh N b x (y.setCell ⟨b,o,Zd⟩ v):=
 h.trans ⟨rfl,rfl,rfl,by simp[Zv],λk _ hn=>Zx _ _ _ _ (by intro e;exact hn e)⟩
theorem bh.mono{M:O}(h:bh N b x y)(hM:M<=N):bh M b x y:=⟨h.os,h.tape,h.output,h.size,λk hk hn=>h.block k (by omega) hn⟩
def bv(l:Zf Zi):Zf Zk:=l.map λu=>Zk.int .u8 (u.toNat:Zb)
theorem D6(l:Zf Zi):(bv l).length=l.length:=by simp[bv]
theorem tZ(l m:Zf Zi):bv (l++m)=bv l++bv m:=by simp[bv]
def OB(w:Ze)(N:O)(v:Zk)(l:Zf Zi):Prop:=w.ownsRow N 5 1 v l.length (bv l)
theorem OB.nil(w:Ze)(N:O):OB w N (.slice Zd 0 0) []:=Ze.ownsRow_nil _ _ _ _
theorem OB.kept{w':Ze}(h:OB w N v l)(hb:ab b w w')(hN:b<N):OB w' N v l:=
 ZJ h hb (by
  cases hv:v.ownBlock with
  |none=>exact Or.inl rfl
  |some g=>right;intro e;injection e with e;have:=(ZG h g hv).1;omega)
theorem OB.alloc(h:OB w N v l)(o:Obj):OB (w.alloc o) N v l:=ZH h o
theorem OB.below(h:OB w N v l):∀k,v.ownBlock=Za k->N<=k:=λk hk=>(ZG h k hk).1
theorem zS:(prog.info? 5).map (λi=>(i.zero,i.size,i.bytes))=Za (Za (.int .u8 0),1,1):=by kernel_rfl
theorem M7(l:Zf Zi):∀u∈bv l,u.oneCell'=Zn:=by
 intro u hu;simp only[bv,Zf.mem_map]at hu;obtain⟨x,_,rfl⟩:=hu;rfl
theorem dz(hgd:o.guard=Zd)(s x:Zt)
 (ho:o.op=.call { callee:=.builtin .append,args:=#[s,x],argTypes:=#[49,49] })
 (N:O) (v:Zk) (l:Zf Zi) (hs:a.eval s=v) (am:OB w N v l) (ad:Addr) (m c:O) (news:Zf Zi) (hx:a.eval x=.slice (Za ad) m c) (hm:m=news.length)
 (hnews:∀j u,(bv news)[j]?=Za u->w.cell? (ad.add j)=Za u) (hl:l.length+news.length<=1000000) (hbase:N<=w.heap.size)
 (h:∀v' w',OB w' N v' (l++news)->w.grownBy w' v.ownBlock->wpList prog ops Q rest (a.put o.dst v') w'):wpList prog ops Q (o::rest) a w:=by
 obtain⟨i0,hi,ip,ee,dP⟩:=Zu zS;refine wpList_append_own w hgd s x 49 ho N 5 i0 (.int .u8 0) 1 1 underlying49 hi ip ee dP rfl (by decide) v l.length (bv l) hs am ad m c (bv news) hx (by rw[D6,hm,ZC]) hnews (M7 _) (by unfold maxLen;omega) (by omega) hbase ?_;intro v' w' h1 h2 _;refine h v' w' ?_ h2;unfold OB;rw[tZ,Zq,<-hm];exact h1
theorem rk(hgd:o.guard=Zd)(s x:Zt)
 (ho:o.op=.call { callee:=.builtin .append,args:=#[s,x],argTypes:=#[49,9] })
 (N:O) (v:Zk) (l:Zf Zi) (hs:a.eval s=v) (am:OB w N v l) (t:Zc) (hx:a.eval x=.string t) (hl:l.length+t.size<=1000000) (hbase:N<=w.heap.size)
 (h:∀v' w',OB w' N v' (l++t.data.toList)->w.grownBy w' v.ownBlock->wpList prog ops Q rest (a.put o.dst v') w'):wpList prog ops Q (o::rest) a w:=by
 obtain⟨i0,hi,ip,ee,dP⟩:=Zu zS;refine Lib.wpList_append_own_string w hgd s x 49 9 ho N 5 i0 underlying49 underlying9 hi ip ee dP v l.length (bv l) hs am t hx (by unfold maxLen;omega) (by omega) hbase ?_;intro v' w' h1 h2 _;refine h v' w' ?_ h2;unfold OB;rw[tZ,Zq];exact h1
theorem aiS(hg:o.guard=Zd)(s x:Zt)
 (fF:o.op=.call { callee:=.builtin .append,args:=#[s,x],argTypes:=#[49,9] })
 (N:O) (v:Zk) (l:Zf Zi) (hs:a.eval s=v) (am:OB w N v l) (t:Zc) (hx:a.eval x=.string t) (hl:l.length+t.size<=1000000) (hbase:N<=w.heap.size)
 (hK:∀v' w',OB w' N v' (l++t.data.toList)->w.grownBy w' v.ownBlock->K (a.put o.dst v') w'):
 if Zo o (yielded ops a.tmps)=Zn then Zr prog o a w K Q else E:=by
 have hw:Zo o (yielded ops a.tmps)=Zn:=by simp[Zo,hg]
 rw[Zm hw];obtain⟨i0,hi,ip,ee,dP⟩:=Zu zS;obtain⟨v',w',hr,h1,h2,_⟩:=Lib.run_append_own_string (P:=prog) w N 49 9 o.type 5 i0 underlying49 underlying9 hi ip ee dP v l.length (bv l) am t (by unfold maxLen;omega) (by omega) hbase;unfold Zr;simp[execOp,fF,resolve,invoke,builtin,hs,hx,hr,ZD];refine hK v' w' ?_ h2;unfold OB;rw[tZ,Zq];exact h1
theorem UQ(hg:o.guard=Zd)(s x:Zt)
 (fF:o.op=.call { callee:=.builtin .append,args:=#[s,x],argTypes:=#[49,49] })
 (N:O) (v:Zk) (l:Zf Zi) (hs:a.eval s=v) (am:OB w N v l) (ad:Addr) (m c:O) (news:Zf Zi) (hx:a.eval x=.slice (Za ad) m c) (hm:m=news.length)
 (hnews:∀j u,(bv news)[j]?=Za u->w.cell? (ad.add j)=Za u) (hl:l.length+news.length<=1000000) (hbase:N<=w.heap.size)
 (hK:∀v' w',OB w' N v' (l++news)->w.grownBy w' v.ownBlock->K (a.put o.dst v') w'):
 if Zo o (yielded ops a.tmps)=Zn then Zr prog o a w K Q else E:=by
 have hw:Zo o (yielded ops a.tmps)=Zn:=by simp[Zo,hg]
 rw[Zm hw];obtain⟨i0,hi,ip,ee,dP⟩:=Zu zS;obtain⟨v',w',hr,h1,h2,_⟩:=run_append_own (P:=prog) w N 49 o.type 5 i0 (.int .u8 0) 1 1 underlying49 hi ip ee dP rfl (by decide) v l.length (bv l) am ad m c (bv news) (by rw[D6,hm,ZC]) hnews (M7 _) (by unfold maxLen;omega) (by omega) hbase;unfold Zr;simp[execOp,fF,resolve,invoke,builtin,hs,hx,hr,ZD];refine hK v' w' ?_ h2;unfold OB;rw[tZ,Zq,<-hm];exact h1
theorem agm(l:Zf Zi):(l.map λu=>((u.toNat:Zb))).map (λn=>ZE n.toNat)=l:=by
 rw[Zf.map_map];have:((λn:Zb=>ZE n.toNat) ∘ λu:Zi=>(u.toNat:Zb))=id:=by
  funext u;simp
 rw[this,Zf.map_id]
theorem ua(h:OB w N v l):(convert 49 9 v).run prog w=.ok (.string ⟨l.toArray⟩) w:=by
 rcases h.2 with⟨rfl,hn⟩|⟨g,cap,cur,rfl,hN,hg,Ru,hm,aH,fd⟩
 .have:l=[]:=Zf.eq_nil_of_length_eq_zero hn;subst this;rw[run_convert_bytes_nil w 49 5 underlying49 underlying5 0 0 9 underlying9]
  rfl
 .have hc:=ZI h (g:=g) rfl;rw[run_convert_bytes_arg w 49 5 underlying49 underlying5 g 0 l.length cap (l.map λu=>((u.toNat:Zb))) (by simp) ?_ 9 underlying9]
  .congr 2
   unfold strOfNums;rw[agm]
  .intro i hi;have:=hc i (.int .u8 ((l[i]'hi).toNat:Zb)) (by simp[bv,Zz hi]);rw[Addr.add_lit]at this;rw[this];simp[Zf.getD,Zz hi]
end
end Go.Proofs.YtdlgkgfeoiohiaaGreatDoor
