/- Part 10. -/
import Derived.Test.YtdlgkgfeoiohiaaGreatDoorA08
open Bool renaming false -> Zi
open ByteArray renaming ext -> Zt,size -> Zu,data_append -> Zy
open Go renaming World -> Zk,Calls -> Zo
open Go.ByteArray renaming toList_eq -> Zz
open Go.Ending renaming returned -> Zv
open Go.RowKit renaming Below -> Zg
open Go.RowKit.Below renaming refl -> Zp
open Go.Value renaming string -> Zx
open List renaming length_cons -> Zw,reverse_append -> ZA
open Nat renaming le_trans -> Zn
open Option renaming some -> Zm
open Or renaming inr -> Zc,inl -> Zl
open Sum renaming inr -> Zf,inl -> Zh
open UInt8 renaming ofNat -> Zq
open UInt8.toNat renaming inj -> ZB
open _root_ renaming List -> O,UInt8 -> Za,Int -> Zb,Nat -> Zd,ByteArray -> Ze,if_neg -> Zj,congrArg -> Zr,beq_eq_false_iff_ne -> ZC
namespace Go.Proofs.YtdlgkgfeoiohiaaGreatDoor
set_option linter.unusedVariables false
set_option maxHeartbeats 16000000
set_option maxRecDepth 100000
open Go.RowKit J Tryz
variable {x y:Zb}
theorem Vm:∀n,A7 n/\CX n
 |0=>⟨Vn 0 PF,PF⟩
 |n+1=>by
  have ih:=(Vm n).1;have hb:CX (n+1):=by
   intro b s k d lg obj w hd cy hb hs hk;cases obj
   .exact aa9 n ih b s k d lg w hd cy hb hs hk
   .exact aba n ih b s k d lg w hd cy hb hs hk
  exact⟨Vn (n+1) hb,hb⟩
def iM:Zd->Zd->Zd->O Za->O Za
 |0,_,_,acc=>acc
 |f+1,n,least,acc=>if 0<n\/acc.length<least then iM f (n/10) least (Zq (48+n%10)::acc)else acc
def bW(n least:Zd):O Za:=iM 40 n least []
theorem abK(d:Zd)(h:d<10):(⟨#[48,49,50,51,52,53,54,55,56,57]⟩:Ze).extract d (d+1)=⟨#[Zq (48+d)]⟩:=by
 rcases(show d=0\/d=1\/d=2\/d=3\/d=4\/d=5\/d=6\/d=7\/d=8\/d=9 from by omega)with rfl|rfl|rfl|rfl|rfl|rfl|rfl|rfl|rfl|rfl <;> rfl
theorem abC(c:Za)(l:O Za):(⟨#[c]⟩:Ze)++(⟨l.toArray⟩:Ze)=⟨(c::l).toArray⟩:=by
 apply Zt
 rw[Zy];simp
theorem Qe(m least:Zd)(w:Zk)(hm:m<=1000000000000000000)(hl:least<=10):
 Zo prog 99 #[.int .i64 m,.int .i64 least] w λe w'=>e=.returned (.string ⟨(bW m least).toArray⟩)/\w=w':=by
 obtain⟨R,hR⟩:∃R,R=bW m least:=⟨_,rfl⟩
 have HR:XX (iM 40 m least []=R):=hR.symm;rw[<-hR];clear hR;go_enter func99,ntmps99;go_wp2_with fail;go_loopg [0,5] 40 (λg nv sv wr=>w=wr/\∃(x:Zd) (acc:O Za),nv=.int .i64 x/\sv=.string ⟨acc.toArray⟩/\x<=1000000000000000000/\acc.length+g=40/\iM g x least acc=R/\x<10^g/\least<=acc.length+g)
 case atStart=>exact⟨rfl,m,[],rfl,rfl,hm,by simp,HR.o,Zd.lt_of_le_of_lt hm (by decide),by omega⟩
 case round=>
  obtain⟨rfl,x,acc,rfl,rfl,hx,Lo,hD,ST,oH⟩:=hrel;have HD:XX (iM gk x least acc=R):=hD;have yG:XX (x<10^gk):=ST;clear hD ST;by_cases hc:0<x\/acc.length<least
  .obtain⟨f,rfl⟩:∃f,gk=f+1:=by
    cases gk with
    |zero=>have:=yG.o;simp at this;omega
    |succ f=>exact⟨f,rfl⟩
   have HN:XX (iM f (x/10) least (Zq (48+x%10)::acc)=R):=by
    show _=_;rw[<-HD.o,iM,if_pos hc]
   have Gr:XX (x/10<10^f):=by
    show _<_;have:=yG.o;rw[Zd.pow_succ]at this;omega
   have adU:x%10<10:=Zd.mod_lt _ (by decide);have oQ:XX ((⟨#[48,49,50,51,52,53,54,55,56,57]⟩:Ze).extract (x%10) (x%10+1)++(⟨acc.toArray⟩:Ze)=⟨(Zq (48+x%10)::acc).toArray⟩):=by show _=_;rw[abK (x%10) adU];exact abC _ acc
   have adE:(⟨acc.toArray⟩:Ze).size=acc.length:=by simp[Zu]
   rcases(show 0<x\/(x=0/\acc.length<least)from by omega)with cU|⟨cU,eK⟩
   .go_wp2;go_roundg f
    case measure=>omega
    case rel=>exact⟨rfl,x/10,_,by go_num,Zr Zx oQ.o,by omega,by simp;omega,HN.o,Gr.o,by simp;omega⟩
   .subst cU;go_wp2;go_roundg f
    case measure=>omega
    case rel=>exact⟨rfl,0/10,_,by go_num,Zr Zx oQ.o,by omega,by simp;omega,HN.o,Gr.o,by simp;omega⟩
  .have HF:XX (R=acc):=by
    show _=_;rw[<-HD.o];cases gk with
    |zero=>rfl
    |succ f=>rw[iM,Zj hc]
   have cU:x=0:=by omega
   have eK:¬acc.length<least:=by omega
   subst cU;have adE:(⟨acc.toArray⟩:Ze).size=acc.length:=by simp[Zu]
   clear hc;go_wp2;go_ret;exact⟨by rw[HF.o];rfl,rfl⟩
def d8(l:O Za):O Za:=(l.reverse.dropWhile (λc=>c==48)).reverse
theorem ajO:d8 []=[]:=rfl
theorem ajP(l:O Za)(c:Za)(h:c≠48):d8 (l++[c])=l++[c]:=by
 unfold d8;rw[ZA];simp[h]
theorem ajQ(l:O Za):d8 (l++[48])=d8 l:=by
 unfold d8;rw[ZA];simp
def lG(n:Zb):O Za:=
 (if n<0 then[45]else[])++bW (n.natAbs/1000000) 1++(if d8 (bW (n.natAbs%1000000) 6)=[]then[]else 46::d8 (bW (n.natAbs%1000000) 6))
theorem aiN{α:Type}(l:O α):l=[]\/∃a c,l=a++[c]:=by
 rcases O.eq_nil_or_concat l with h|⟨a,c,h⟩
 .exact Zl h
 .exact Zc ⟨a,c,by rw[h,O.concat_eq_append]⟩
def bs(l:O Za):Ze:=⟨l.toArray⟩
theorem ei(a b:O Za):bs a++bs b=bs (a++b):=by
 apply Zt;rw[Zy];simp[bs]
theorem eO(a:O Za):(bs a).size=a.length:=by simp[bs,Zu]
theorem Bi(a:O Za):(bs a).data.toList=a:=by simp[bs]
theorem abe(a:O Za)(i:Zd)(h:i<(bs a).size):(bs a)[i]=a[i]'(by rw[eO]at h;exact h):=by simp[bs];rfl
theorem abf(a:O Za)(c:Za):(bs (a++[c])).extract 0 a.length=bs a:=by
 apply Zt
 rw[Ze.data_extract];simp[bs]
theorem Qf(m least:Zd)(w:Zk)(hm:m<=1000000000000000000)(hl:least<=10)(hx:x=(m:Zb))(hy:y=(least:Zb)):
 Zo prog 99 #[.int .i64 x,.int .i64 y] w λe w'=>e=.returned (.string (bs (bW m least)))/\w=w':=by subst hx;subst hy;exact Qe m least w hm hl
theorem Bn:∀(f n least:Zd) (acc:O Za),(iM f n least acc).length<=acc.length+f
 |0,n,least,acc=>by simp[iM]
 |f+1,n,least,acc=>by
  simp only[iM];split
  .have:=Bn f (n/10) least (Zq (48+n%10)::acc);rw[Zw]at this;omega
  .omega
theorem P9(sg:O Za)(m:Zd)(n:Zb)(w:Zk)(hm:m<=1000000000000000000)(hn:(n=m/\sg=[]/\0<=n)\/(n=-(m:Zb)/\sg=[45]/\n<0)):
 Zo prog 80 #[.int .i64 n] w λe w'=>e=.returned (.string (bs (sg++bW (m/1000000) 1++(if d8 (bW (m%1000000) 6)=[]then[]else 46::d8 (bW (m%1000000) 6)))))/\w=w':=by
 have h1:=Bn 40 (m/1000000) 1 [];have h2:=Bn 40 (m%1000000) 6 [];obtain⟨A,hA⟩:∃A,A=bW (m/1000000) 1:=⟨_,rfl⟩
 obtain⟨B,hB⟩:∃B,B=bW (m%1000000) 6:=⟨_,rfl⟩
 have hAl:A.length<=40:=by rw[hA];simpa[bW]using h1
 have hBl:B.length<=40:=by rw[hB];simpa[bW]using h2
 have HA:XX (bW (m/1000000) 1=A):=hA.symm;have ic:XX (bW (m%1000000) 6=B):=hB.symm;rw[<-hA,<-hB];clear hA hB h1 h2;have hsA:=eO A;have hsB:=eO B;have ou:XX ((sg=[]/\bs sg=⟨#[]⟩)\/(sg=[45]/\bs sg=⟨#[45]⟩)):=by rcases hn with⟨_,h,_⟩|⟨_,h,_⟩ <;> subst h <;> simp[bs,XX]
 have RK:∀x:Ze,x=bs sg->(d8 B=[]->Zv (.string (x++bs A))=.returned (.string (bs (sg++A++(if d8 B=[]then[]else 46::d8 B)))))/\(d8 B≠[]->Zv (.string (x++bs A++⟨#[46]⟩++bs (d8 B)))=.returned (.string (bs (sg++A++(if d8 B=[]then[]else 46::d8 B))))):=by
  intro x hx;subst hx;constructor
  .intro h;rw[if_pos h,ei,O.append_nil]
  .intro h;rw[Zj h,show(⟨#[46]⟩:Ze)=bs [46]from rfl,ei,ei,ei];simp
 have d6:XX _:=RK;clear RK;obtain⟨P,hP⟩:∃P,P=bs (sg++A++(if d8 B=[]then[]else 46::d8 B)):=⟨_,rfl⟩
 rw[<-hP];have HP:XX (P=bs (sg++A++(if d8 B=[]then[]else 46::d8 B))):=hP;clear hP;rcases hn with⟨rfl,jD,h0⟩|⟨rfl,jD,h0⟩
 all_goals
  have HX:XX (bs sg=bs sg):=rfl;go_enter func80,ntmps80;go_wp2_with fail;refine(Qf (m/1000000) 1 w (by omega) (by omega) (by omega) rfl).mono ?_;rintro e w1 ⟨rfl,rfl⟩;rw[HA.o];go_wp2_with fail;refine(Qf (m%1000000) 6 w (by omega) (by omega) (by omega) rfl).mono ?_;rintro e w2 ⟨rfl,rfl⟩;rw[ic.o];go_wp2_with fail;go_loopg [4] B.length (λg pv wr=>w=wr/\∃acc:O Za,pv=.string (bs acc)/\acc.length=g/\acc.length<=40/\d8 acc=d8 B)
  case atStart=>exact⟨rfl,B,rfl,rfl,hBl,rfl⟩
  case round=>
   obtain⟨rfl,acc,rfl,Lo,zk,SE⟩:=hrel;have pM:XX (d8 acc=d8 B):=SE;have Wh:XX (acc.length=gk):=Lo;have aH:=eO acc;clear SE Lo;rcases aiN acc with rfl|⟨init,c,rfl⟩
   .have HF:XX (d8 B=[]):=pM.o.symm.trans ajO;have he:(bs []).toList.isEmpty=true:=by rw[Zz,Bi];rfl
    go_wp2;go_ret;refine⟨?_,rfl⟩;rw[HP.o];exact(d6.o _ (by rw[jD];rfl)).1 HF.o
   .have az:(init++[c]).length=init.length+1:=by simp
    rw[az]at aH zk;have hi:init.length<(bs (init++[c])).size:=by omega
    have RO:(bs (init++[c]))[init.length]'hi=c:=by rw[abe];simp
    by_cases hc:c=48
    .subst hc;have HN:XX (d8 init=d8 B):=(ajQ init).symm.trans pM.o;have alL:((48:Za).toNat:Zb)=48:=rfl;go_wp2;go_roundg init.length
     case measure=>rw[<-Wh.o];simp
     case rel=>exact⟨rfl,init,Zr Zx (abf init 48),rfl,by omega,HN.o⟩
    .have HF:XX (d8 B=init++[c]):=pM.o.symm.trans (ajP init c hc);have BE:((c.toNat:Zb)==48)=Zi:=by
      rw[ZC];intro e;apply hc;apply ZB;have:c.toNat=48:=by omega
      exact this
     have he:(bs (init++[c])).toList.isEmpty=Zi:=by rw[Zz,Bi];simp
     go_wp2;go_ret;refine⟨?_,rfl⟩;rw[HP.o,HF.o];have:=(d6.o _ (show _=bs sg by rw[jD])).2 (by rw[HF.o];simp);rw[HF.o]at this;exact this
theorem abI(n:Zb)(w:Zk)(h1:-1000000000000000000<=n)(h2:n<=1000000000000000000):
 Zo prog 80 #[.int .i64 n] w λe w'=>e=.returned (.string (bs (lG n)))/\w=w':=by
 unfold lG;by_cases h:n<0
 .rw[if_pos h];exact P9 [45] n.natAbs n w (by omega) (Zc ⟨by omega,rfl,h⟩)
 .rw[Zj h];exact P9 [] n.natAbs n w (by omega) (Zl ⟨by omega,rfl,by omega⟩)
def hxd:Ze:=⟨#[48,49,50,51,52,53,54,55,56,57,97,98,99,100,101,102]⟩
def og(d:Zd):Za:=hxd.data.toList.getD d 0
def qb(c:Za):O Za:=
 if c=34 then[92,34]else if c=92 then[92,92]else if c=8 then[92,98]else if c=12 then[92,102]else if c=10 then[92,110]else if c=13 then[92,114]else if c=9 then[92,116]
 else if c.toNat<32 then[92,117,48,48,og (c.toNat/16),og (c.toNat%16)]else[c]
def dt(l:O Za):O Za:=34::l.flatMap qb++[34]
theorem Nt(c:Za):c=34\/c=92\/c=8\/c=12\/c=10\/c=13\/c=9\/(c≠34/\c≠92/\c≠8/\c≠12/\c≠10/\c≠13/\c≠9):=by
 by_cases h1:c=34
 .exact Zl h1
 by_cases h2:c=92
 .exact Zc (Zl h2)
 by_cases h3:c=8
 .exact Zc (Zc (Zl h3))
 by_cases h4:c=12
 .exact Zc (Zc (Zc (Zl h4)))
 by_cases h5:c=10
 .exact Zc (Zc (Zc (Zc (Zl h5))))
 by_cases h6:c=13
 .exact Zc (Zc (Zc (Zc (Zc (Zl h6)))))
 by_cases h7:c=9
 .exact Zc (Zc (Zc (Zc (Zc (Zc (Zl h7))))))
 .exact Zc (Zc (Zc (Zc (Zc (Zc (Zc ⟨h1,h2,h3,h4,h5,h6,h7⟩))))))
theorem Nu{c:Za}(h:c≠34/\c≠92/\c≠8/\c≠12/\c≠10/\c≠13/\c≠9):qb c=if c.toNat<32 then[92,117,48,48,og (c.toNat/16),og (c.toNat%16)]else[c]:=by
 obtain⟨h1,h2,h3,h4,h5,h6,h7⟩:=h;rw[qb,Zj h1,Zj h2,Zj h3,Zj h4,Zj h5,Zj h6,Zj h7]
theorem aib(c:Za):(qb c).length<=6:=by
 rcases Nt c with rfl|rfl|rfl|rfl|rfl|rfl|rfl|h
 iterate 7 decide
 rw[Nu h];split <;> simp
theorem QC(l:O Za):(l.flatMap qb).length<=6*l.length:=by
 induction l with
 |nil=>simp
 |cons c l ih=>have:=aib c;rw[O.flatMap_cons,O.length_append,Zw];omega
theorem I3(s:Ze)(k:Zd)(h:k<s.size):s.data.toList.take (k+1)=s.data.toList.take k++[s[k]]:=by
 rw[O.take_succ_eq_append_getElem (by simpa using h)];rfl
theorem qi{W:Zk}{n:Zd}(hW:W.heap.size=n)(a b:Za)(t:TypeId)(hx:(a.toNat:Zb)=x)(hy:(b.toNat:Zb)=y):∀j u,(bv [a,b])[j]?=Zm u->(W.alloc (.cells #[.int .u8 x,.int .u8 y] t)).cell? ((⟨n,0,none⟩:Addr).add j)=Zm u:=by
 subst hW;subst hx;subst hy;exact MS W [a,b] t
theorem UM(W:Zk)(q1 q2:Zd)(h1:q1<16)(h2:q2<16)(g1:q1<(⟨#[48,49,50,51,52,53,54,55,56,57,97,98,99,100,101,102]⟩:Ze).size)(g2:q2<(⟨#[48,49,50,51,52,53,54,55,56,57,97,98,99,100,101,102]⟩:Ze).size):
 ∀j u,(bv [92,117,48,48,og q1,og q2])[j]?=Zm u->(W.alloc (.cells #[.int .u8 92,.int .u8 117,.int .u8 48,.int .u8 48,.int .u8 (((⟨#[48,49,50,51,52,53,54,55,56,57,97,98,99,100,101,102]⟩:Ze)[q1]'g1).toNat:Zb),.int .u8 (((⟨#[48,49,50,51,52,53,54,55,56,57,97,98,99,100,101,102]⟩:Ze)[q2]'g2).toNat:Zb)] 5)).cell? ((⟨W.heap.size,0,none⟩:Addr).add j)=Zm u:=by
 have key:∀(q:Zd) (h:q<16) (g:q<(⟨#[48,49,50,51,52,53,54,55,56,57,97,98,99,100,101,102]⟩:Ze).size),(⟨#[48,49,50,51,52,53,54,55,56,57,97,98,99,100,101,102]⟩:Ze)[q]'g=og q:=by
  intro q h g;rcases(show q=0\/q=1\/q=2\/q=3\/q=4\/q=5\/q=6\/q=7\/q=8\/q=9\/q=10\/q=11\/q=12\/q=13\/q=14\/q=15 from by omega)with rfl|rfl|rfl|rfl|rfl|rfl|rfl|rfl|rfl|rfl|rfl|rfl|rfl|rfl|rfl|rfl <;> rfl
 rw[key q1 h1 g1,key q2 h2 g2];exact MS W [92,117,48,48,og q1,og q2] 5
theorem CF(s:Ze)(w:Zk)(hs:s.size<=100000):
 Zo prog 63 #[.string s] w λe w'=>e=.returned (.string (bs (dt s.data.toList)))/\Zg w.heap.size w w':=by
 obtain⟨N,hN⟩:∃N,N=w.heap.size:=⟨_,rfl⟩
 have HN:XX (N=w.heap.size):=hN;have En:N<=w.heap.size:=by omega
 rw[<-hN];clear hN;go_enter func63,ntmps63;go_wp2_with (at_builtin;refine dz rfl (.tmp 8) (.tmp 9) rfl N (.slice none 0 0) [] rfl ?h1 _ _ _ [34] rfl rfl ?h2 ?h3 ?h4 ?_)
 case h1=>exact OB.nil _ _
 case h2=>exact cX rfl _ _ rfl
 case h3=>simp
 case h4=>simp;omega
 intro v1 w1 cE bX;have je:Zg N w w1:=((Zp N w).alloc En _).grown bX (by simp;omega) (by intro k hk;simp[Value.ownBlock]at hk);have io:N<=w1.heap.size:=by have:=bX.size;simp at this;omega
 clear bX;go_wp2_with fail;go_loopg [4,5] (s.size+1) (λg ov iv wr=>∃x:Zd,x<=s.size/\g=s.size+1-x/\iv=.int .i64 x/\OB wr N ov (34::(s.data.toList.take x).flatMap qb)/\Zg N w wr/\N<=wr.heap.size)
 case atStart=>exact⟨0,by omega,by omega,rfl,by simpa using cE,je,io⟩
 case round=>
  obtain⟨x,hx,hg,rfl,am,ba,aH⟩:=hrel;have HG:XX (gk=s.size+1-x):=hg;clear cE je io hg;obtain⟨L,hL⟩:∃L,L=34::(s.data.toList.take x).flatMap qb:=⟨_,rfl⟩
  rw[<-hL]at am;have El:L.length<=6*100000+1:=by
   rw[hL];have:=QC (s.data.toList.take x);have h2:(s.data.toList.take x).length<=x:=O.length_take_le _ _;simp only[Zw];omega
  have HL:XX (L=34::(s.data.toList.take x).flatMap qb):=hL;clear hL;by_cases ai:x<s.size
  .obtain⟨c,hc⟩:∃c,c=s[x]'ai:=⟨_,rfl⟩
   have ja:XX (L++qb c=34::(s.data.toList.take (x+1)).flatMap qb):=by
    show _=_;rw[HL.o,I3 s x ai,O.flatMap_append,hc];simp
   have lV:XX (s[x]'ai=c):=hc.symm;clear hc;rcases Nt c with rfl|rfl|rfl|rfl|rfl|rfl|rfl|hn
   .have jZ:s[x]'ai=34:=lV.o;go_wp2_with (at_builtin;refine dz rfl (.tmp 42) (.tmp 44) rfl N u4 L rfl ?h1 _ _ _ [92,34] rfl rfl ?h2 ?h3 ?h4 ?_)
    case h1=>exact am.alloc _
    case h2=>exact qi rfl _ _ _ rfl rfl
    case h3=>simp;omega
    case h4=>simp;omega
    intro v' w4 aN an;have hB:Zg N w w4:=(ba.alloc aH _).grown an (by simp;omega) am.below;have dk:N<=w4.heap.size:=by have:=an.size;simp at this;omega
    clear an;go_wp2;go_roundg (s.size+1-(x+1))
    case measure=>rw[HG.o];omega
    case rel=>exact⟨x+1,by omega,rfl,by go_num,by rw[<-ja.o];exact aN,hB,dk⟩
   .have jZ:s[x]'ai=92:=lV.o;go_wp2_with (at_builtin;refine dz rfl (.tmp 42) (.tmp 44) rfl N u4 L rfl ?h1 _ _ _ [92,92] rfl rfl ?h2 ?h3 ?h4 ?_)
    case h1=>exact am.alloc _
    case h2=>exact qi rfl _ _ _ rfl rfl
    case h3=>simp;omega
    case h4=>simp;omega
    intro v' w4 aN an;have hB:Zg N w w4:=(ba.alloc aH _).grown an (by simp;omega) am.below;have dk:N<=w4.heap.size:=by have:=an.size;simp at this;omega
    clear an;go_wp2;go_roundg (s.size+1-(x+1))
    case measure=>rw[HG.o];omega
    case rel=>exact⟨x+1,by omega,rfl,by go_num,by rw[<-ja.o];exact aN,hB,dk⟩
   .have jZ:s[x]'ai=8:=lV.o;go_wp2_with (at_builtin;refine dz rfl (.tmp 42) (.tmp 44) rfl N u4 L rfl ?h1 _ _ _ [92,98] rfl rfl ?h2 ?h3 ?h4 ?_)
    case h1=>exact am.alloc _
    case h2=>exact qi rfl _ _ _ rfl rfl
    case h3=>simp;omega
    case h4=>simp;omega
    intro v' w4 aN an;have hB:Zg N w w4:=(ba.alloc aH _).grown an (by simp;omega) am.below;have dk:N<=w4.heap.size:=by have:=an.size;simp at this;omega
    clear an;go_wp2;go_roundg (s.size+1-(x+1))
    case measure=>rw[HG.o];omega
    case rel=>exact⟨x+1,by omega,rfl,by go_num,by rw[<-ja.o];exact aN,hB,dk⟩
   .have jZ:s[x]'ai=12:=lV.o;go_wp2_with (at_builtin;refine dz rfl (.tmp 42) (.tmp 44) rfl N u4 L rfl ?h1 _ _ _ [92,102] rfl rfl ?h2 ?h3 ?h4 ?_)
    case h1=>exact am.alloc _
    case h2=>exact qi rfl _ _ _ rfl rfl
    case h3=>simp;omega
    case h4=>simp;omega
    intro v' w4 aN an;have hB:Zg N w w4:=(ba.alloc aH _).grown an (by simp;omega) am.below;have dk:N<=w4.heap.size:=by have:=an.size;simp at this;omega
    clear an;go_wp2;go_roundg (s.size+1-(x+1))
    case measure=>rw[HG.o];omega
    case rel=>exact⟨x+1,by omega,rfl,by go_num,by rw[<-ja.o];exact aN,hB,dk⟩
   .have jZ:s[x]'ai=10:=lV.o;go_wp2_with (at_builtin;refine dz rfl (.tmp 42) (.tmp 44) rfl N u4 L rfl ?h1 _ _ _ [92,110] rfl rfl ?h2 ?h3 ?h4 ?_)
    case h1=>exact am.alloc _
    case h2=>exact qi rfl _ _ _ rfl rfl
    case h3=>simp;omega
    case h4=>simp;omega
    intro v' w4 aN an;have hB:Zg N w w4:=(ba.alloc aH _).grown an (by simp;omega) am.below;have dk:N<=w4.heap.size:=by have:=an.size;simp at this;omega
    clear an;go_wp2;go_roundg (s.size+1-(x+1))
    case measure=>rw[HG.o];omega
    case rel=>exact⟨x+1,by omega,rfl,by go_num,by rw[<-ja.o];exact aN,hB,dk⟩
   .have jZ:s[x]'ai=13:=lV.o;go_wp2_with (at_builtin;refine dz rfl (.tmp 42) (.tmp 44) rfl N u4 L rfl ?h1 _ _ _ [92,114] rfl rfl ?h2 ?h3 ?h4 ?_)
    case h1=>exact am.alloc _
    case h2=>exact qi rfl _ _ _ rfl rfl
    case h3=>simp;omega
    case h4=>simp;omega
    intro v' w4 aN an;have hB:Zg N w w4:=(ba.alloc aH _).grown an (by simp;omega) am.below;have dk:N<=w4.heap.size:=by have:=an.size;simp at this;omega
    clear an;go_wp2;go_roundg (s.size+1-(x+1))
    case measure=>rw[HG.o];omega
    case rel=>exact⟨x+1,by omega,rfl,by go_num,by rw[<-ja.o];exact aN,hB,dk⟩
   .have jZ:s[x]'ai=9:=lV.o;go_wp2_with (at_builtin;refine dz rfl (.tmp 42) (.tmp 44) rfl N u4 L rfl ?h1 _ _ _ [92,116] rfl rfl ?h2 ?h3 ?h4 ?_)
    case h1=>exact am.alloc _
    case h2=>exact qi rfl _ _ _ rfl rfl
    case h3=>simp;omega
    case h4=>simp;omega
    intro v' w4 aN an;have hB:Zg N w w4:=(ba.alloc aH _).grown an (by simp;omega) am.below;have dk:N<=w4.heap.size:=by have:=an.size;simp at this;omega
    clear an;go_wp2;go_roundg (s.size+1-(x+1))
    case measure=>rw[HG.o];omega
    case rel=>exact⟨x+1,by omega,rfl,by go_num,by rw[<-ja.o];exact aN,hB,dk⟩
   .have HQ:=Nu hn;obtain⟨n1,n2,n3,n4,n5,n6,n7⟩:=hn;have ne:∀y:Za,c≠y->(((s[x]'ai).toNat:Zb)==(y.toNat:Zb))=Zi:=by
     intro y hy;rw[ZC];intro e;apply hy;rw[lV.o]at e;exact ZB (by omega)
    have e1:(((s[x]'ai).toNat:Zb)==34)=Zi:=ne 34 n1;have e2:(((s[x]'ai).toNat:Zb)==92)=Zi:=ne 92 n2;have e3:(((s[x]'ai).toNat:Zb)==8)=Zi:=ne 8 n3;have e4:(((s[x]'ai).toNat:Zb)==12)=Zi:=ne 12 n4;have e5:(((s[x]'ai).toNat:Zb)==10)=Zi:=ne 10 n5;have e6:(((s[x]'ai).toNat:Zb)==13)=Zi:=ne 13 n6;have e7:(((s[x]'ai).toNat:Zb)==9)=Zi:=ne 9 n7;clear n1 n2 n3 n4 n5 n6 n7 ne;by_cases iA:(s[x]'ai).toNat<32
    .rw[if_pos (by rw[<-lV.o];exact iA)]at HQ;have dV:XX (qb c=_):=HQ;clear HQ;have K1:((s[x]'ai).toNat:Zb)<32:=by omega
     obtain⟨q1,sZ⟩:∃q1:Zd,q1=(s[x]'ai).toNat/16:=⟨_,rfl⟩
     obtain⟨q2,rN⟩:∃q2:Zd,q2=(s[x]'ai).toNat%16:=⟨_,rfl⟩
     have dE:IntKind.u8.wrap (((s[x]'ai).toNat:Zb)/16)=(q1:Zb):=by rw[sZ];simp[IntKind.wrap,IntKind.signed,IntKind.bits];omega
     have lO:(((s[x]'ai).toNat:Zb)).tmod 16=(q2:Zb):=by rw[Zb.tmod_eq_emod_of_nonneg (by omega),rN];omega
     have aeX:(q1:Zb)<16:=by omega
     have aeY:(q2:Zb)<16:=by omega
     have sB:XX (qb c=[92,117,48,48,og q1,og q2]):=by show _=_;rw[sZ,rN,lV.o];exact dV.o
     clear sZ rN iA dV;go_wp2
     go_region_law (refine UQ rfl _ _ rfl N u4 L (by rfl) (by exact am.alloc _) ⟨wr.heap.size,0,none⟩ _ _ [92,117,48,48,og q1,og q2] (by rfl) (by rfl) (by exact UM wr q1 q2 (by omega) (by omega) _ _) (by simp;omega) (by simp;omega) ?_;intro v' w4 aN an)
     all_goals
      have hB:Zg N w w4:=((ba.alloc aH _).drew).grown an (by simp;omega) am.below;have dk:N<=w4.heap.size:=by have:=an.size;simp at this;omega
      rw[<-sB.o]at aN;clear an;go_wp2;go_roundg (s.size+1-(x+1))
      case measure=>rw[HG.o];omega
      case rel=>exact⟨x+1,by omega,rfl,by go_num,by rw[<-ja.o];exact aN,hB,dk⟩
    .rw[Zj (by rw[<-lV.o];exact iA)]at HQ;have dV:XX (qb c=[c]):=HQ;clear HQ;have K1:¬((s[x]'ai).toNat:Zb)<32:=by omega
     have Ov:XX ((c.toNat:Zb)=((s[x]'ai).toNat:Zb)):=by show _=_;rw[lV.o]
     go_wp2_with (at_builtin;refine dz rfl (.tmp 35) (.tmp 37) rfl N u4 L rfl ?h1 _ _ _ [c] rfl rfl ?h2 ?h3 ?h4 ?_)
     case h1=>exact am.alloc _
     case h2=>first|exact cX rfl _ _ Ov.o|(intro j u hj;rw[show bv [c]=[.int .u8 ((s[x]'ai).toNat:Zb)]from by simp[bv,Ov.o]]at hj;exact hj)
     case h3=>first|omega|(simp;omega)
     case h4=>first|omega|(simp;omega)
     intro v' w4 aN an;rw[<-dV.o]at aN;have hB:Zg N w w4:=(ba.alloc aH _).grown an (by simp;omega) am.below;have dk:N<=w4.heap.size:=by have:=an.size;simp at this;omega
     clear an;go_wp2;go_roundg (s.size+1-(x+1))
     case measure=>rw[HG.o];omega
     case rel=>exact⟨x+1,by omega,rfl,by go_num,by rw[<-ja.o];exact aN,hB,dk⟩
  .have uw:x=s.size:=by omega
   have HF:XX (L++[34]=dt s.data.toList):=by
    show _=_;rw[HL.o,dt,O.take_of_length_le (by simp;omega)]
   go_wp2_with (at_builtin;refine dz rfl (.tmp 60) (.tmp 61) rfl N u4 L rfl ?h1 _ _ _ [34] rfl rfl ?h2 ?h3 ?h4 ?_)
   case h1=>exact am.alloc _
   case h2=>exact cX rfl _ _ rfl
   case h3=>simp;omega
   case h4=>simp;omega
   intro v' w4 aN an;have hB:Zg N w w4:=(ba.alloc aH _).grown an (by simp;omega) am.below;have oU:=ua aN;clear an;go_wp2;go_ret;exact⟨Zr (λl=>Zv (.string (bs l))) HF.o,hB⟩
def tp(l:Lf):O Za:=
 match (l:Unit⊕(Bool⊕(Zb⊕Ze)))with
 |Zh _=>[110,117,108,108]
 |Zf (Zh t)=>if t then[116,114,117,101]else[102,97,108,115,101]
 |Zf (Zf (Zh n))=>lG n
 |Zf (Zf (Zf s))=>dt s.data.toList
def ci:Bool->O (O Za)->O Za
 |_,[]=>[]
 |fst,x::r=>(if fst then[]else[44])++x++ci Zi r
theorem Fl:∀(f:Bool) (l:O (O Za)) (x:O Za),ci f (l++[x])=ci f l++(if f&&l.isEmpty then[]else[44])++x
 |f,[],x=>by cases f <;> simp[ci]
 |f,y::l,x=>by
  have:=Fl Zi l x;simp only[O.cons_append,ci,this];simp[O.append_assoc]
def iS(k:Ze)(t:O Za):O Za:=dt k.data.toList++58::t
def aF:(n:Zd)->VT n->O Za
 |0,l=>tp l
 |n+1,v=>
  match (v:Lf⊕(O (VT n)⊕(O Ze×O (VT n))))with
  |Zh l=>tp l
  |Zf (Zh vs)=>91::ci true (vs.map (aF n))++[93]
  |Zf (Zf (ks,vs))=>123::ci true (O.zipWith iS ks (vs.map (aF n)))++[125]
def DM(l:Lf):Prop:=
 match (l:Unit⊕(Bool⊕(Zb⊕Ze)))with
 |Zf (Zf (Zh n))=>-1000000000000000<=n/\n<=1000000000000000
 |Zf (Zf (Zf s))=>s.size<=100000
 |_=>True
def fV:(n:Zd)->VT n->Prop
 |0,l=>DM l
 |n+1,v=>
  match (v:Lf⊕(O (VT n)⊕(O Ze×O (VT n))))with
  |Zh l=>DM l
  |Zf (Zh vs)=>∀x∈vs,fV n x
  |Zf (Zf (ks,vs))=>(∀k∈ks,k.size<=100000)/\∀x∈vs,fV n x
def DR(n:Zd):Prop:=
 ∀(v:VT n) (p:Value) (w:Zk) (N:Zd) (out:Value) (l:O Za),br n w (λm=>m<N) v p->fV n v->N<=w.heap.size->OB w N out l->l.length+(aF n v).length<=900000 ->
  Zo prog 50 #[p,out] w λe w'=>∃out',e=.returned out'/\OB w' N out' (l++aF n v)/\Zg N w w'/\N<=w'.heap.size
theorem IL{w w':Zk}{N:Zd}{v:Value}{l:O Za}(h:OB w N v l)(hb:Zg w.heap.size w w'):OB w' N v l:=by
 refine⟨h.1,?_⟩;rcases h.2 with h2|⟨g,cap,cur,rfl,h0,hg,r⟩
 .exact .inl h2
 .exact .inr ⟨g,cap,cur,rfl,h0,by rw[hb.block g (al hg)];exact hg,r⟩
theorem Vu(lf:Lf)(p:Value)(w:Zk)(N:Zd)(out:Value)(l:O Za)(cH:DO w (λm=>m<N) lf p)(be:DM lf)(hN:N<=w.heap.size)(am:OB w N out l)(az:l.length+(tp lf).length<=900000):
 Zo prog 50 #[p,out] w λe w'=>∃out',e=.returned out'/\OB w' N out' (l++tp lf)/\Zg N w w'/\N<=w'.heap.size:=by
 obtain⟨m,W,rfl,hm,hh⟩:=cH
 match lf,be,hh,az with
 |Zh _,be,hh,az=>
  have p7:w.heap[m]?=Zm (dq 122 0 ⟨#[]⟩ eE eE W):=hh;have HT:XX (tp (Zh ())=[110,117,108,108]):=rfl;obtain⟨g0,g1,g2,g3,g4,g5,hf⟩:=m7 p7;have zz:l.length+4<=900000:=az;clear hh p7 be az g1 g2 g3 g4 g5 hf;go_enter func50,ntmps50;go_wp2_with (at_builtin;refine rk rfl _ _ rfl N out l rfl am ⟨#[110,117,108,108]⟩ rfl ?h3 hN ?_)
  case h3=>show l.length+4<=1000000;omega
  intro v' w4 aN an;go_wp2;go_ret;exact⟨v',rfl,aN,(Zp N w).grown an hN am.below,Zn hN an.size⟩
 |Zf (Zh true),be,hh,az=>
  have p7:w.heap[m]?=Zm (dq 116 0 ⟨#[]⟩ eE eE W):=hh;obtain⟨g0,g1,g2,g3,g4,g5,hf⟩:=m7 p7;have zz:l.length+4<=900000:=az;clear hh p7 be az g1 g2 g3 g4 g5 hf;go_enter func50,ntmps50;go_wp2_with (at_builtin;refine rk rfl _ _ rfl N out l rfl am ⟨#[116,114,117,101]⟩ rfl ?h3 hN ?_)
  case h3=>show l.length+4<=1000000;omega
  intro v' w4 aN an;go_wp2;go_ret;exact⟨v',rfl,aN,(Zp N w).grown an hN am.below,Zn hN an.size⟩
 |Zf (Zh Zi),be,hh,az=>
  have p7:w.heap[m]?=Zm (dq 102 0 ⟨#[]⟩ eE eE W):=hh;obtain⟨g0,g1,g2,g3,g4,g5,hf⟩:=m7 p7;have zz:l.length+5<=900000:=az;clear hh p7 be az g1 g2 g3 g4 g5 hf;go_enter func50,ntmps50;go_wp2_with (at_builtin;refine rk rfl _ _ rfl N out l rfl am ⟨#[102,97,108,115,101]⟩ rfl ?h3 hN ?_)
  case h3=>show l.length+5<=1000000;omega
  intro v' w4 aN an;go_wp2;go_ret;exact⟨v',rfl,aN,(Zp N w).grown an hN am.below,Zn hN an.size⟩
 |Zf (Zf (Zh n)),be,hh,az=>
  have p7:w.heap[m]?=Zm (dq 110 n ⟨#[]⟩ eE eE W):=hh;have uq:-1000000000000000<=n/\n<=1000000000000000:=be;obtain⟨g0,g1,g2,g3,g4,g5,hf⟩:=m7 p7;have zz:l.length+(lG n).length<=900000:=az;have HO:XX (-1000000000000000<=n/\n<=1000000000000000):=uq;have aH:=eO (lG n);clear hh p7 be uq az g2 g3 g4 g5 hf;go_enter func50,ntmps50;go_wp2_with (first
   |(go_at_call 80;refine(abI n _ (by have:=HO.o;omega) (by have:=HO.o;omega)).mono ?_;rintro e w2 ⟨rfl,rfl⟩)
   |(at_builtin;refine rk rfl _ _ rfl N out l rfl am (bs (lG n)) rfl ?h3 hN ?_))
  case h3=>rw[eO];omega
  intro v' w4 aN an;rw[Bi]at aN;go_wp2;go_ret;exact⟨v',rfl,aN,(Zp N w).grown an hN am.below,Zn hN an.size⟩
 |Zf (Zf (Zf s)),be,hh,az=>
  have p7:w.heap[m]?=Zm (dq 115 0 s eE eE W):=hh;have uq:s.size<=100000:=be;obtain⟨g0,g1,g2,g3,g4,g5,hf⟩:=m7 p7;have zz:l.length+(dt s.data.toList).length<=900000:=az;clear hh p7 be az g1 g3 g4 g5 hf;go_enter func50,ntmps50;go_wp2_with (go_at_call 63;refine(CF s _ uq).mono ?_;rintro e w2 ⟨rfl,By⟩;fail)
  refine(CF s _ uq).mono ?_;rintro e w2 ⟨rfl,By⟩;have dH:OB w2 N out l:=IL am By;go_wp2_with (at_builtin;refine rk rfl _ _ rfl N out l rfl dH (bs (dt s.data.toList)) rfl ?h3 ?h4 ?_)
  case h3=>rw[eO];omega
  case h4=>exact Zn hN By.size
  intro v' w4 aN an;rw[Bi]at aN;go_wp2;go_ret;exact⟨v',rfl,aN,(By.mono hN).grown an (Zn hN By.size) am.below,Zn (Zn hN By.size) an.size⟩
end Go.Proofs.YtdlgkgfeoiohiaaGreatDoor
