/- Part 29. -/
import Derived.Test.YtdlgkgfeoiohiaaGreatDoorA26
open Bool renaming false -> Zd,true -> Zg
open ByteArray renaming size_extract -> ZG
open Go renaming Value -> Zl,World -> Zt,Calls -> Zv,maxLen -> ZD
open Go.Calls renaming mono -> Zp
open Go.RowKit renaming Below -> Zr
open Go.RowKit.Below renaming refl -> ZE,mono -> ZL,heap_setCell -> ZO
open Go.Value renaming slice -> ZN
open Go.World renaming setCell -> ZI,cell? -> ZX
open Go.World.ownsRow renaming form -> ZY,kept -> ZZ,lt -> Z0
open List renaming getElem?_eq_getElem -> Zu,getElem?_eq_some_iff -> Zw,length_append -> Zx,length_singleton -> ZA,mem_of_getElem? -> ZB,mem_cons -> ZH,cons_append -> ZP,mem_singleton -> ZQ,nil_append -> ZU,size_toArray -> ZV
open Nat renaming le_refl -> Zk,lt_or_ge -> Zm,zero_add -> Zn
open Option renaming some -> Zc,none -> Ze
open Or renaming inr -> Zo
open Sum renaming inr -> ZM
open UInt8 renaming ofNat -> ZW
open _root_ renaming Nat -> O,Int -> Za,List -> Zb,ByteArray -> Zf,if_neg -> Zh,if_pos -> Zi,Bool -> Zj,UInt8 -> Zq,Option -> Zy,decide_eq_false -> Zz,bne_iff_ne -> ZC,beq_eq_false_iff_ne -> ZJ,decide_eq_true -> ZK
namespace Go.Proofs.YtdlgkgfeoiohiaaGreatDoor
set_option linter.unusedVariables false
set_option maxHeartbeats 16000000
set_option maxRecDepth 100000
open Go.RowKit J Go.Proofs.Tryz
variable {inn:bc}{w:Zt}{u s op:Zf}{A:O->Prop}{l:Zb Nd}{i a j:O}{ex part:O->PR}{x:Nd}{v:Zy (VT 12)}{n0 n1 n2:Za}{i0 i1 i2:Zj}{lsl:Zl}
theorem br.ptr:∀(n:O) {w:Zt} {A:O->Prop} {v:VT n} {p:Zl},br n w A v p->∃m,p=.pointer (Zc ⟨m,0,Ze⟩)
 |0,w,A,v,p,h=>by obtain⟨m,W,hp,_⟩:=h;exact⟨m,hp⟩
 |n+1,w,A,v,p,h=>by
  match v,h with
  |Sum.inl l,h=>obtain⟨m,W,hp,_⟩:=h;exact⟨m,hp⟩
  |ZM (Sum.inl vs),h=>obtain⟨m,W,l,ps,hp,_⟩:=h;exact⟨m,hp⟩
  |ZM (ZM (ks,vs)),h=>obtain⟨m,W,l,ksl,ps,hp,_⟩:=h;exact⟨m,hp⟩
theorem OV.nil{q:Zy Addr}(h:OV w A v q):q.isNone=v.isNone:=by
 cases v with
 |none=>have h:q=Ze:=h;rw[h];rfl
 |some v=>
  obtain⟨m,e⟩:=br.ptr 12 h.2.2;injection e with e;rw[e];rfl
theorem cr.get:∀{l:Zb Nd} {ps:Zb Zl} {i:O} {y:Nd},cr w A l ps->l[i]?=Zc y->∃r,ps[i]?=Zc r/\aJ w A y r
 |[],ps,i,y,h,hi=>by simp at hi
 |x::l,ps,i,y,h,hi=>by
  unfold cr at h;obtain⟨p,ps',e,h1,h2⟩:=h;subst e;cases i with
  |zero=>simp at hi;subst hi;exact⟨p,rfl,h1⟩
  |succ i=>obtain⟨r,hr,hn⟩:=cr.get h2 (by simpa using hi);exact⟨r,by simpa using hr,hn⟩
def wT(w:Zt)(A:O->Prop)(l:Zb Nd)(lsl:Zl):Prop:=
 (lsl=.slice Ze 0 0/\l=[])\/∃g cap,lsl=.slice (Zc ⟨g,0,Ze⟩) l.length cap/\∀i y,l[i]?=Zc y->∃m,w.cell? ⟨g,i,Ze⟩=Zc (.pointer (Zc ⟨m,0,Ze⟩))/\aJ w A y (.pointer (Zc ⟨m,0,Ze⟩))
theorem aJ.view{names:Zb Zf}{p:Zl}(h:aJ w A (.mk op a s names l n0 n1 n2 i0 i1 i2 v) p):
 ∃m nsl lsl q,p=.pointer (Zc ⟨m,0,Ze⟩)/\w.heap[m]?=Zc (bH op a s nsl lsl n0 n1 n2 i0 i1 i2 (.pointer q))/\OV w A v q/\ao w 9 nsl (kv names)/\wT w A l lsl/\l.length<=ZD:=by
 unfold aJ at h;obtain⟨m,nsl,lsl,ps,q,hp,hA,hb,hn,hl,hs,hv⟩:=h;have az:=cr.len hs;refine⟨m,nsl,lsl,q,hp,hb,hv,hn.1,?_,by have:=ao.maxlen hl.1;omega⟩;rcases hl.1.len with⟨h1,h2⟩|⟨g,cap,h1,h2⟩
 .refine Or.inl ⟨h1,?_⟩;rw[h2]at az;exact Zb.length_eq_zero_iff.1 az.symm
 .refine Zo ⟨g,cap,by rw[h1,az],λi y hi=>?_⟩;obtain⟨r,hr,hn⟩:=cr.get hs hi;obtain⟨m',e,_⟩:=hn.ptr;subst e;have aO:=hl.1;rw[h1]at aO;exact⟨m',aO.get hr,hn⟩
theorem yP:∀(l:Zb Nd),gz l=l.any eN
 |[]=>by rw[gz];rfl
 |x::l=>by rw[gz,Zb.any_cons,yP l]
theorem Pz{y:Nd}(h:l[i]?=Zc y)(hy:eN y=Zg):gz l=Zg:=by
 rw[yP,Zb.any_eq_true];exact⟨y,ZB h,hy⟩
theorem PA(h:∀(j:O) (y:Nd),l[j]?=Zc y->eN y=Zd):gz l=Zd:=by
 rw[yP,Zb.any_eq_false];intro y hy;obtain⟨j,hj⟩:=Zb.getElem?_of_mem hy;rw[h j y hj];simp
theorem MR{nb:O}{nsl:Zl}{v:Zl}(hb:w.heap[nb]?=Zc (bH op a s nsl lsl n0 n1 n2 i0 i1 i2 v)):
 w.cell? ⟨nb,0,Ze⟩=Zc (.string op)/\w.cell? ⟨nb,1,Ze⟩=Zc (.int .i64 a)/\w.cell? ⟨nb,2,Ze⟩=Zc (.string s)/\w.cell? ⟨nb,3,Ze⟩=Zc nsl/\w.cell? ⟨nb,4,Ze⟩=Zc lsl/\w.cell? ⟨nb,11,Ze⟩=Zc v:=by
 unfold bH at hb;refine⟨?_,?_,?_,?_,?_,?_⟩ <;> simp[ZX,hb]
def FX(x:Nd):Prop:=∀(w:Zt) (A:O->Prop) (p:Zl),aJ w A x p->Zv prog 61 #[p] w λe w'=>e=.returned (.bool (eN x))/\w'=w
theorem aa8(op:Zf)(a:O)(s:Zf)(names:Zb Zf)(l:Zb Nd)(n0 n1 n2:Za)(i0 i1 i2:Zj)(v:Zy (VT 12))(IH:∀y∈l,FX y):FX (.mk op a s names l n0 n1 n2 i0 i1 i2 v):=by
 intro w A p h;obtain⟨m,nsl,lsl,q,rfl,hb,hv,_,hk,iQ⟩:=h.view;obtain⟨c0,c1,c2,c3,c4,c11⟩:=MR hb;have hq:=OV.nil hv;have nf:=aa IH;unfold ZD at iQ;obtain⟨R,hR⟩:∃R,R=eN (.mk op a s names l n0 n1 n2 i0 i1 i2 v):=⟨_,rfl⟩
 rw[<-hR];rw[eN]at hR;have HR:=aa hR;clear h hb hv IH hR c1 c2 c3;by_cases hc:op=kr
 .have ec:=uA (l:=[99,111,110,115,116]) hc;have HC:=aa hc;cases q with
  |none=>
   have HT:XX (R=Zg):=by show _=_;rw[HR.o,HC.o,<-hq];rfl
   clear hc hq;go_enter func61,ntmps61;go_wp2;go_ret;exact⟨by rw[HT.o];rfl,rfl⟩
  |some q=>
   have HT:XX (R=gz l):=by show _=_;rw[HR.o,<-hq];simp
   clear hc hq;go_enter func61,ntmps61;go_wp2_with fail;rcases hk with⟨rfl,rfl⟩|⟨g,cap,rfl,qa⟩
   .go_loopg [3] 1 (λgh iv wr=>w=wr/\iv=.int .i64 0)
    case atStart=>exact⟨rfl,rfl⟩
    case round=>
     obtain⟨rfl,rfl⟩:=hrel;go_wp2;go_ret;exact⟨by rw[HT.o,gz];rfl,rfl⟩
   .have HK:=aa qa;clear qa;go_loopg [3] (l.length+1) (λgh iv wr=>w=wr/\∃i:O,i<=l.length/\gh=l.length+1-i/\iv=.int .i64 i/\∀j y,j<i->l[j]?=Zc y->eN y=Zd)
    case atStart=>exact⟨rfl,0,by omega,by omega,rfl,λj y hj=>by omega⟩
    case round=>
     obtain⟨rfl,i,hi,hg,rfl,dM⟩:=hrel;have HG:=aa hg;have ga:=aa dM;clear hg dM;by_cases ai:i<l.length
     .obtain⟨y,hy⟩:∃y,l[i]?=Zc y:=⟨l[i]'ai,Zu ai⟩
      obtain⟨m',ck,hn⟩:=HK.o i y hy;have mp:=aa (nf.o y (ZB hy) w A _ hn);obtain⟨B,hB⟩:∃B,eN y=B:=⟨_,rfl⟩
      rw[hB]at mp;have HY:=aa hy;have ic:=aa hB;have k1:(i:Za)<(l.length:Za):=by omega
      clear hy hn hB;go_wp2_with fail;refine Zp mp.o ?_;rintro e w2 ⟨rfl,rfl⟩;cases B
      .go_wp2;go_roundg (gk-1)
       case measure=>have:=HG.o;omega
       case rel=>
        refine⟨rfl,i+1,by omega,by have:=HG.o;omega,rfl,λj z hj hz=>?_⟩;rcases Zm j i with h|h
        .exact ga.o j z h hz
        .have e:j=i:=by omega
         subst e;rw[HY.o]at hz;injection hz with hz;rw[<-hz];exact ic.o
      .go_wp2;go_ret;exact⟨by rw[HT.o,Pz HY.o ic.o];rfl,rfl⟩
     .have k1:¬((i:Za)<(l.length:Za)):=by omega
      go_wp2;go_ret;exact⟨by rw[HT.o,PA (λj y hj=>ga.o j y (by have:=(Zw.1 hj).1;omega) hj)];rfl,rfl⟩
 .have ec:=fZ (l:=[99,111,110,115,116]) hc;have HT:XX (R=gz l):=by show _=_;rw[HR.o,Zz hc];simp
  clear hc hq;go_enter func61,ntmps61;go_wp2_with fail;rcases hk with⟨rfl,rfl⟩|⟨g,cap,rfl,qa⟩
  .go_loopg [3] 1 (λgh iv wr=>w=wr/\iv=.int .i64 0)
   case atStart=>exact⟨rfl,rfl⟩
   case round=>
    obtain⟨rfl,rfl⟩:=hrel;go_wp2;go_ret;exact⟨by rw[HT.o,gz];rfl,rfl⟩
  .have HK:=aa qa;clear qa;go_loopg [3] (l.length+1) (λgh iv wr=>w=wr/\∃i:O,i<=l.length/\gh=l.length+1-i/\iv=.int .i64 i/\∀j y,j<i->l[j]?=Zc y->eN y=Zd)
   case atStart=>exact⟨rfl,0,by omega,by omega,rfl,λj y hj=>by omega⟩
   case round=>
    obtain⟨rfl,i,hi,hg,rfl,dM⟩:=hrel;have HG:=aa hg;have ga:=aa dM;clear hg dM;by_cases ai:i<l.length
    .obtain⟨y,hy⟩:∃y,l[i]?=Zc y:=⟨l[i]'ai,Zu ai⟩
     obtain⟨m',ck,hn⟩:=HK.o i y hy;have mp:=aa (nf.o y (ZB hy) w A _ hn);obtain⟨B,hB⟩:∃B,eN y=B:=⟨_,rfl⟩
     rw[hB]at mp;have HY:=aa hy;have ic:=aa hB;have k1:(i:Za)<(l.length:Za):=by omega
     clear hy hn hB;go_wp2_with fail;refine Zp mp.o ?_;rintro e w2 ⟨rfl,rfl⟩;cases B
     .go_wp2;go_roundg (gk-1)
      case measure=>have:=HG.o;omega
      case rel=>
       refine⟨rfl,i+1,by omega,by have:=HG.o;omega,rfl,λj z hj hz=>?_⟩;rcases Zm j i with h|h
       .exact ga.o j z h hz
       .have e:j=i:=by omega
        subst e;rw[HY.o]at hz;injection hz with hz;rw[<-hz];exact ic.o
     .go_wp2;go_ret;exact⟨by rw[HT.o,Pz HY.o ic.o];rfl,rfl⟩
    .have k1:¬((i:Za)<(l.length:Za)):=by omega
     go_wp2;go_ret;exact⟨by rw[HT.o,PA (λj y hj=>ga.o j y (by have:=(Zw.1 hj).1;omega) hj)];rfl,rfl⟩
mutual
theorem PB:∀(x:Nd),FX x
 |.mk op a s names l n0 n1 n2 i0 i1 i2 v=>aa8 op a s names l n0 n1 n2 i0 i1 i2 v (PD l)
theorem PD:∀(l:Zb Nd),∀y∈l,FX y
 |[],y,h=>by simp at h
 |x::l,y,h=>by
  rcases ZH.1 h with h|h
  .rw[h];exact PB x
  .exact PD l y h
end
theorem Vx:∀{l:Zb Nd} {i:O} {y:Nd},(∀(j:O) (z:Nd),j<i->l[j]?=Zc z->(iZ z).2=0)->l[i]?=Zc y->(iZ y).2≠0->mn l=iZ y
 |[],i,y,h,hi,hy=>by simp at hi
 |x::l,0,y,h,hi,hy=>by simp at hi;subst hi;rw[mn,Zi hy]
 |x::l,i+1,y,h,hi,hy=>by
  rw[mn,Zh (by have:=h 0 x (by omega) rfl;omega)];exact Vx (i:=i) (λj z hj hz=>h (j+1) z (by omega) (by simpa using hz)) (by simpa using hi) hy
theorem Vz:∀{l:Zb Nd},(∀(j:O) (z:Nd),l[j]?=Zc z->(iZ z).2=0)->mn l=(0,0)
 |[],h=>by rw[mn]
 |x::l,h=>by
  rw[mn,Zh (by have:=h 0 x rfl;omega)];exact Vz (λj z hz=>h (j+1) z (by simpa using hz))
def tW(more:Zj)(t:Zf)(i:O)(y:Nd):Zj:=decide (y.op=eF) != decide ((if more then 97 else gb t i)=38)
theorem vg(more:Zj)(t:Zf):∀{l:Zb Nd} {k:O} {i:O} {y:Nd},l[i]?=Zc y->tW more t (k+i) y=Zg->jH more t k l=Zg
 |[],k,i,y,h,hy=>by simp at h
 |x::l,k,0,y,h,hy=>by
  simp at h;subst h;rw[jH];have:(decide (x.op=eF) != decide ((if more then 97 else gb t k)=38))=Zg:=hy;rw[this];rfl
 |x::l,k,i+1,y,h,hy=>by
  rw[jH,vg more t (l:=l) (k:=k+1) (i:=i) (by simpa using h) (by rw[show k+1+i=k+(i+1) by omega];exact hy),Zj.or_true]
theorem DT(more:Zj)(t:Zf):∀{l:Zb Nd} {k:O},(∀(i:O) (y:Nd),l[i]?=Zc y->tW more t (k+i) y=Zd)->jH more t k l=Zd
 |[],k,h=>by rw[jH]
 |x::l,k,h=>by
  rw[jH,DT more t (l:=l) (k:=k+1) (λi y hy=>by rw[show k+1+i=k+(i+1) by omega];exact h (i+1) y (by simpa using hy)),Zj.or_false];exact h 0 x rfl
def GG(x:Nd):Prop:=∀(w:Zt) (A:O->Prop) (p:Zl),aJ w A x p->Zv prog 62 #[p] w λe w'=>e=.returned (.tuple #[.int .i64 (iZ x).1,.int .i64 (iZ x).2])/\w'=w
theorem wT.form(h:wT w A l lsl):∃o cap,lsl=.slice o l.length cap/\∀(i:O) (y:Nd),l[i]?=Zc y->∃g m,o=Zc ⟨g,0,Ze⟩/\w.cell? ⟨g,i,Ze⟩=Zc (.pointer (Zc ⟨m,0,Ze⟩))/\aJ w A y (.pointer (Zc ⟨m,0,Ze⟩)):=by
 rcases h with⟨h1,h2⟩|⟨g,cap,h1,h2⟩
 .subst h2;exact⟨Ze,0,h1,λi y hi=>by simp at hi⟩
 .refine⟨_,cap,h1,λi y hi=>?_⟩;obtain⟨m,hc,hn⟩:=h2 i y hi;exact⟨g,m,rfl,hc,hn⟩
theorem Qm{t:Zf}(h:0<t.size):t.toList.isEmpty=Zd:=by
 rw[ByteArray.toList_eq];cases t with
 |mk d=>
  have h:0<d.size:=h;cases hd:d.toList with
  |nil=>
   have:d.size=0:=by rw[<-Array.length_toList,hd];rfl
   omega
  |cons a l=>rfl
theorem ajl(s:Zf):(fq s).size<=2:=by
 unfold fq;cases h:CO.find? (λx=>decide (s=x.1))with
 |none=>decide
 |some x=>
  have h1:=Zb.mem_of_find?_eq_some h;simp only[CO,ZH,Zb.not_mem_nil,or_false]at h1;rcases h1 with rfl|rfl|rfl|rfl|rfl|rfl|rfl|rfl|rfl|rfl|rfl|rfl|rfl|rfl|rfl|rfl|rfl|rfl|rfl|rfl|rfl|rfl|rfl|rfl|rfl|rfl <;> decide
theorem akf(op:Zf)(a:O)(s:Zf)(names:Zb Zf)(l:Zb Nd)(n0 n1 n2:Za)(i0 i1 i2:Zj)(v:Zy (VT 12))(IH:∀y∈l,GG y):GG (.mk op a s names l n0 n1 n2 i0 i1 i2 v):=by
 intro w A p h;obtain⟨m,nsl,lsl,q,rfl,hb,hv,_,hk,iQ⟩:=h.view;obtain⟨c0,c1,c2,c3,c4,c11⟩:=MR hb;obtain⟨o,cap,rfl,qa⟩:=hk.form;have nf:=aa IH;have HK:=aa qa;unfold ZD at iQ;obtain⟨R,hR⟩:∃R,R=iZ (.mk op a s names l n0 n1 n2 i0 i1 i2 v):=⟨_,rfl⟩
 rw[<-hR];rw[iZ]at hR;have HR:=aa hR;clear h hb hv IH hR c3 c11 hk qa;go_enter func62,ntmps62;obtain⟨B,hB⟩:∃B,(op.toList==[99,97,108,108])=B:=⟨_,rfl⟩
 go_upto_if 15 with(fail)
 go_cut[] (λwx=>wx=w/\XX (R=mn l))
 case first=>
  cases B
  .have hc:op≠eX:=λh=>by rw[uA (l:=[99,97,108,108]) h]at hB;cases hB
   have HT:XX (R=mn l):=by show _=_;rw[HR.o,Zh (λh=>hc h.1)]
   clear hc;go_wp2_with fail;go_meet
   case rel=>exact⟨rfl,HT⟩
  .have hc:op=eX:=by
    by_cases h:op=eX
    .exact h
    .rw[fZ (l:=[99,97,108,108]) h]at hB;cases hB
   have HT:=aa (aji s w);obtain⟨t,ht⟩:∃t,t=fq s:=⟨_,rfl⟩
   rw[<-ht]at HT;have Ch:t.size<=2:=by rw[ht];exact ajl s
   have Wl:XX (t.size=0->R=(a,3)):=by
    intro h0;have hb:gB s l=3:=by unfold gB;rw[<-ht,Zi h0]
    rw[HR.o,hb,Zi ⟨hc,by decide⟩]
   have F3:XX (t.size≠0->(gb t (t.size-1)=43/\l.length=0)\/(gb t (t.size-1)≠43/\l.length≠t.size)->R=(a,4)):=by
    intro hz h0;have hb:gB s l=4:=by unfold gB;rw[<-ht,Zh hz,Zi h0]
    rw[HR.o,hb,Zi ⟨hc,by decide⟩]
   have F4:XX (t.size≠0->∀more:Zj,(more=decide (gb t (t.size-1)=43))->¬((gb t (t.size-1)=43/\l.length=0)\/(gb t (t.size-1)≠43/\l.length≠t.size))->jH more t 0 l=Zg->R=(a,4)):=by
    intro hz more zD h0 h1;have hb:gB s l=4:=by unfold gB;rw[<-ht,Zh hz,Zh h0,<-zD,Zi h1]
    rw[HR.o,hb,Zi ⟨hc,by decide⟩]
   have gQ:XX (t.size≠0->∀more:Zj,(more=decide (gb t (t.size-1)=43))->¬((gb t (t.size-1)=43/\l.length=0)\/(gb t (t.size-1)≠43/\l.length≠t.size))->jH more t 0 l=Zd->R=mn l):=by
    intro hz more zD h0 h1;have hb:gB s l=0:=by unfold gB;rw[<-ht,Zh hz,Zh h0,<-zD,h1];rfl
    rw[HR.o,hb,Zh (λh=>h.2 rfl)]
   clear hc ht;go_wp2_with fail;refine Zp HT.o ?_;rintro e w2 ⟨rfl,rfl⟩;rcases(show t.size=0\/t.size=1\/t.size=2 by omega)with aH|aH|aH
   .have h0:t=⟨#[]⟩:=by
     cases t with
     |mk d=>have:d.size=0:=aH;rw[Array.size_eq_zero_iff.1 this]
    have nj:=aa (Wl.o aH);subst h0;go_wp2;go_ret2;exact⟨by rw[nj.o];rfl,rfl⟩
   .have eB:0<t.size:=by omega
    have EQ:=Qm (show 0<t.size by omega);have iB:=ew eB;have wQ:=aa aH;by_cases hm:gb t 0=43
    .have e43:(((t[0]'eB).toNat:Za)==43)=Zg:=by rw[<-iB,hm];rfl
     by_cases gG:l.length=0
     .have yv:XX (R=(a,4)):=by show _=_;exact F3.o (by omega) (Or.inl ⟨by rw[aH];exact hm,gG⟩)
      have el0:((l.length:Za)==0)=Zg:=by rw[gG];rfl
      clear hm iB;go_wp2;go_ret2;exact⟨by rw[yv.o];rfl,rfl⟩
     .have el0:((l.length:Za)==0)=Zd:=ZJ.2 (by omega);have se:XX (False\/jH Zg t 0 l=Zg->R=(a,4)):=λh=>F4.o (by omega) Zg (by rw[aH];simpa using hm) (λh'=>by rcases h' with⟨_,h'⟩|⟨h',_⟩;exact gG h';exact h' (by rw[aH];exact hm)) (h.resolve_left id)
      have dN:XX (jH Zg t 0 l=Zd->R=mn l):=λh=>gQ.o (by omega) Zg (by rw[aH];simpa using hm) (λh'=>by rcases h' with⟨_,h'⟩|⟨h',_⟩;exact gG h';exact h' (by rw[aH];exact hm)) h
      clear hm iB;go_wp2_with fail;go_loopg [6] (l.length+1) (λgh iv wr=>w2=wr/\∃i:O,i<=l.length/\gh=l.length+1-i/\iv=.int .i64 i/\∀(j:O) (y:Nd),j<i->l[j]?=Zc y->tW Zg t j y=Zd)
      case atStart=>exact⟨rfl,0,by omega,by omega,rfl,λj y hj=>by omega⟩
      case round=>
       obtain⟨rfl,i,hi,hg,rfl,dM⟩:=hrel;have HG:=aa hg;have ga:=aa dM;clear hg dM;by_cases ai:i<l.length
       .obtain⟨y,hy⟩:∃y,l[i]?=Zc y:=⟨l[i]'ai,Zu ai⟩
        obtain⟨g,m',rfl,ck,hn⟩:=HK.o i y hy;have co:=hn.op;have HY:=aa hy;have k1:(i:Za)<(l.length:Za):=by omega
        clear hy hn;obtain⟨wi,tj⟩:∃wi,wi=(97:Za):=⟨_,rfl⟩
        have HA:XX (tW Zg t i y=(decide (y.op=eF) != decide (wi=38))):=by show(decide (y.op=eF) != decide ((if Zg then 97 else gb t i)=38))=_;rw[Zi rfl,<-tj]
        have zq:((y.op.toList==[38])=decide (y.op=eF)):=by
         by_cases h:y.op=eF
         .rw[uA (l:=[38]) h,ZK h]
         .rw[fZ (l:=[38]) h,Zz h]
        have fE:(wi==38)=decide (wi=38):=by by_cases h:wi=38 <;> simp[h]
        obtain⟨B1,dX⟩:∃B,decide (y.op=eF)=B:=⟨_,rfl⟩
        obtain⟨B2,bZ⟩:∃B,decide (wi=38)=B:=⟨_,rfl⟩
        rw[dX]at zq HA;rw[bZ]at fE HA;rw[tj]at fE;have mo:=HA;clear dX bZ HA;cases B1
        .cases B2
         .go_wp2;go_roundg (gk-1)
          case measure=>have:=HG.o;omega
          case rel=>
           refine⟨rfl,i+1,by omega,by have:=HG.o;omega,rfl,λj z hj hz=>?_⟩;rcases Zm j i with h|h
           .exact ga.o j z h hz
           .have e:j=i:=by omega
            subst e;rw[HY.o]at hz;injection hz with hz;rw[<-hz,mo.o];rfl
         .go_wp2;go_ret2;have oT:R=(a,4):=se.o (Zo (vg Zg t (k:=0) HY.o (by rw[Zn,mo.o];rfl)));exact⟨by rw[oT];rfl,rfl⟩
        .cases B2
         .go_wp2;go_ret2;have oT:R=(a,4):=se.o (Zo (vg Zg t (k:=0) HY.o (by rw[Zn,mo.o];rfl)));exact⟨by rw[oT];rfl,rfl⟩
         .go_wp2;go_roundg (gk-1)
          case measure=>have:=HG.o;omega
          case rel=>
           refine⟨rfl,i+1,by omega,by have:=HG.o;omega,rfl,λj z hj hz=>?_⟩;rcases Zm j i with h|h
           .exact ga.o j z h hz
           .have e:j=i:=by omega
            subst e;rw[HY.o]at hz;injection hz with hz;rw[<-hz,mo.o];rfl
       .have k1:¬((i:Za)<(l.length:Za)):=by omega
        go_wp2;go_meet
        case rel=>exact⟨rfl,dN.o (DT Zg t (k:=0) (λj y hj=>by rw[Zn];exact ga.o j y (by have:=(Zw.1 hj).1;omega) hj))⟩
    .have e43:(((t[0]'eB).toNat:Za)==43)=Zd:=by rw[<-iB];exact ZJ.2 hm
     by_cases gG:l.length=1
     .have el0:((l.length:Za) != 1)=Zd:=by rw[gG];rfl
      have se:XX (False\/jH Zd t 0 l=Zg->R=(a,4)):=λh=>F4.o (by omega) Zd (by rw[aH];simpa using hm) (λh'=>by rcases h' with⟨h',_⟩|⟨_,h'⟩;exact hm (by rw[aH]at h';exact h');exact h' (by rw[aH];exact gG)) (h.resolve_left id)
      have dN:XX (jH Zd t 0 l=Zd->R=mn l):=λh=>gQ.o (by omega) Zd (by rw[aH];simpa using hm) (λh'=>by rcases h' with⟨h',_⟩|⟨_,h'⟩;exact hm (by rw[aH]at h';exact h');exact h' (by rw[aH];exact gG)) h
      clear hm iB;go_wp2_with fail;go_loopg [6] (l.length+1) (λgh iv wr=>w2=wr/\∃i:O,i<=l.length/\gh=l.length+1-i/\iv=.int .i64 i/\∀(j:O) (y:Nd),j<i->l[j]?=Zc y->tW Zd t j y=Zd)
      case atStart=>exact⟨rfl,0,by omega,by omega,rfl,λj y hj=>by omega⟩
      case round=>
       obtain⟨rfl,i,hi,hg,rfl,dM⟩:=hrel;have HG:=aa hg;have ga:=aa dM;clear hg dM;by_cases ai:i<l.length
       .obtain⟨y,hy⟩:∃y,l[i]?=Zc y:=⟨l[i]'ai,Zu ai⟩
        obtain⟨g,m',rfl,ck,hn⟩:=HK.o i y hy;have co:=hn.op;have HY:=aa hy;have k1:(i:Za)<(l.length:Za):=by omega
        clear hy hn;have BO:i<t.size:=by omega
        have jn:=ew BO;have kt:(i:Za)<(t.size:Za):=by omega
        obtain⟨wi,tj⟩:∃wi,wi=((t[i]'BO).toNat:Za):=⟨_,rfl⟩
        have hq:gb t i=wi:=by rw[jn,tj]
        have HA:XX (tW Zd t i y=(decide (y.op=eF) != decide (wi=38))):=by show(decide (y.op=eF) != decide ((if Zd then 97 else gb t i)=38))=_;rw[Zh (by simp),hq]
        have zq:((y.op.toList==[38])=decide (y.op=eF)):=by
         by_cases h:y.op=eF
         .rw[uA (l:=[38]) h,ZK h]
         .rw[fZ (l:=[38]) h,Zz h]
        have fE:(wi==38)=decide (wi=38):=by by_cases h:wi=38 <;> simp[h]
        obtain⟨B1,dX⟩:∃B,decide (y.op=eF)=B:=⟨_,rfl⟩
        obtain⟨B2,bZ⟩:∃B,decide (wi=38)=B:=⟨_,rfl⟩
        rw[dX]at zq HA;rw[bZ]at fE HA;rw[tj]at fE;have mo:=HA;clear dX bZ HA;cases B1
        .cases B2
         .go_wp2;go_roundg (gk-1)
          case measure=>have:=HG.o;omega
          case rel=>
           refine⟨rfl,i+1,by omega,by have:=HG.o;omega,rfl,λj z hj hz=>?_⟩;rcases Zm j i with h|h
           .exact ga.o j z h hz
           .have e:j=i:=by omega
            subst e;rw[HY.o]at hz;injection hz with hz;rw[<-hz,mo.o];rfl
         .go_wp2;go_ret2;have oT:R=(a,4):=se.o (Zo (vg Zd t (k:=0) HY.o (by rw[Zn,mo.o];rfl)));exact⟨by rw[oT];rfl,rfl⟩
        .cases B2
         .go_wp2;go_ret2;have oT:R=(a,4):=se.o (Zo (vg Zd t (k:=0) HY.o (by rw[Zn,mo.o];rfl)));exact⟨by rw[oT];rfl,rfl⟩
         .go_wp2;go_roundg (gk-1)
          case measure=>have:=HG.o;omega
          case rel=>
           refine⟨rfl,i+1,by omega,by have:=HG.o;omega,rfl,λj z hj hz=>?_⟩;rcases Zm j i with h|h
           .exact ga.o j z h hz
           .have e:j=i:=by omega
            subst e;rw[HY.o]at hz;injection hz with hz;rw[<-hz,mo.o];rfl
       .have k1:¬((i:Za)<(l.length:Za)):=by omega
        go_wp2;go_meet
        case rel=>exact⟨rfl,dN.o (DT Zd t (k:=0) (λj y hj=>by rw[Zn];exact ga.o j y (by have:=(Zw.1 hj).1;omega) hj))⟩
     .have yv:XX (R=(a,4)):=by show _=_;exact F3.o (by omega) (Zo ⟨by rw[aH];exact hm,by rw[aH];exact gG⟩)
      have el0:((l.length:Za) != 1)=Zg:=ZC.2 (by omega);clear hm iB;go_wp2;go_ret2;exact⟨by rw[yv.o];rfl,rfl⟩
   .have eB:1<t.size:=by omega
    have EQ:=Qm (show 0<t.size by omega);have iB:=ew eB;have wQ:=aa aH;by_cases hm:gb t 1=43
    .have e43:(((t[1]'eB).toNat:Za)==43)=Zg:=by rw[<-iB,hm];rfl
     by_cases gG:l.length=0
     .have yv:XX (R=(a,4)):=by show _=_;exact F3.o (by omega) (Or.inl ⟨by rw[aH];exact hm,gG⟩)
      have el0:((l.length:Za)==0)=Zg:=by rw[gG];rfl
      clear hm iB;go_wp2;go_ret2;exact⟨by rw[yv.o];rfl,rfl⟩
     .have el0:((l.length:Za)==0)=Zd:=ZJ.2 (by omega);have se:XX (False\/jH Zg t 0 l=Zg->R=(a,4)):=λh=>F4.o (by omega) Zg (by rw[aH];simpa using hm) (λh'=>by rcases h' with⟨_,h'⟩|⟨h',_⟩;exact gG h';exact h' (by rw[aH];exact hm)) (h.resolve_left id)
      have dN:XX (jH Zg t 0 l=Zd->R=mn l):=λh=>gQ.o (by omega) Zg (by rw[aH];simpa using hm) (λh'=>by rcases h' with⟨_,h'⟩|⟨h',_⟩;exact gG h';exact h' (by rw[aH];exact hm)) h
      clear hm iB;go_wp2_with fail;go_loopg [6] (l.length+1) (λgh iv wr=>w2=wr/\∃i:O,i<=l.length/\gh=l.length+1-i/\iv=.int .i64 i/\∀(j:O) (y:Nd),j<i->l[j]?=Zc y->tW Zg t j y=Zd)
      case atStart=>exact⟨rfl,0,by omega,by omega,rfl,λj y hj=>by omega⟩
      case round=>
       obtain⟨rfl,i,hi,hg,rfl,dM⟩:=hrel;have HG:=aa hg;have ga:=aa dM;clear hg dM;by_cases ai:i<l.length
       .obtain⟨y,hy⟩:∃y,l[i]?=Zc y:=⟨l[i]'ai,Zu ai⟩
        obtain⟨g,m',rfl,ck,hn⟩:=HK.o i y hy;have co:=hn.op;have HY:=aa hy;have k1:(i:Za)<(l.length:Za):=by omega
        clear hy hn;obtain⟨wi,tj⟩:∃wi,wi=(97:Za):=⟨_,rfl⟩
        have HA:XX (tW Zg t i y=(decide (y.op=eF) != decide (wi=38))):=by show(decide (y.op=eF) != decide ((if Zg then 97 else gb t i)=38))=_;rw[Zi rfl,<-tj]
        have zq:((y.op.toList==[38])=decide (y.op=eF)):=by
         by_cases h:y.op=eF
         .rw[uA (l:=[38]) h,ZK h]
         .rw[fZ (l:=[38]) h,Zz h]
        have fE:(wi==38)=decide (wi=38):=by by_cases h:wi=38 <;> simp[h]
        obtain⟨B1,dX⟩:∃B,decide (y.op=eF)=B:=⟨_,rfl⟩
        obtain⟨B2,bZ⟩:∃B,decide (wi=38)=B:=⟨_,rfl⟩
        rw[dX]at zq HA;rw[bZ]at fE HA;rw[tj]at fE;have mo:=HA;clear dX bZ HA;cases B1
        .cases B2
         .go_wp2;go_roundg (gk-1)
          case measure=>have:=HG.o;omega
          case rel=>
           refine⟨rfl,i+1,by omega,by have:=HG.o;omega,rfl,λj z hj hz=>?_⟩;rcases Zm j i with h|h
           .exact ga.o j z h hz
           .have e:j=i:=by omega
            subst e;rw[HY.o]at hz;injection hz with hz;rw[<-hz,mo.o];rfl
         .go_wp2;go_ret2;have oT:R=(a,4):=se.o (Zo (vg Zg t (k:=0) HY.o (by rw[Zn,mo.o];rfl)));exact⟨by rw[oT];rfl,rfl⟩
        .cases B2
         .go_wp2;go_ret2;have oT:R=(a,4):=se.o (Zo (vg Zg t (k:=0) HY.o (by rw[Zn,mo.o];rfl)));exact⟨by rw[oT];rfl,rfl⟩
         .go_wp2;go_roundg (gk-1)
          case measure=>have:=HG.o;omega
          case rel=>
           refine⟨rfl,i+1,by omega,by have:=HG.o;omega,rfl,λj z hj hz=>?_⟩;rcases Zm j i with h|h
           .exact ga.o j z h hz
           .have e:j=i:=by omega
            subst e;rw[HY.o]at hz;injection hz with hz;rw[<-hz,mo.o];rfl
       .have k1:¬((i:Za)<(l.length:Za)):=by omega
        go_wp2;go_meet
        case rel=>exact⟨rfl,dN.o (DT Zg t (k:=0) (λj y hj=>by rw[Zn];exact ga.o j y (by have:=(Zw.1 hj).1;omega) hj))⟩
    .have e43:(((t[1]'eB).toNat:Za)==43)=Zd:=by rw[<-iB];exact ZJ.2 hm
     by_cases gG:l.length=2
     .have el0:((l.length:Za) != 2)=Zd:=by rw[gG];rfl
      have se:XX (False\/jH Zd t 0 l=Zg->R=(a,4)):=λh=>F4.o (by omega) Zd (by rw[aH];simpa using hm) (λh'=>by rcases h' with⟨h',_⟩|⟨_,h'⟩;exact hm (by rw[aH]at h';exact h');exact h' (by rw[aH];exact gG)) (h.resolve_left id)
      have dN:XX (jH Zd t 0 l=Zd->R=mn l):=λh=>gQ.o (by omega) Zd (by rw[aH];simpa using hm) (λh'=>by rcases h' with⟨h',_⟩|⟨_,h'⟩;exact hm (by rw[aH]at h';exact h');exact h' (by rw[aH];exact gG)) h
      clear hm iB;go_wp2_with fail;go_loopg [6] (l.length+1) (λgh iv wr=>w2=wr/\∃i:O,i<=l.length/\gh=l.length+1-i/\iv=.int .i64 i/\∀(j:O) (y:Nd),j<i->l[j]?=Zc y->tW Zd t j y=Zd)
      case atStart=>exact⟨rfl,0,by omega,by omega,rfl,λj y hj=>by omega⟩
      case round=>
       obtain⟨rfl,i,hi,hg,rfl,dM⟩:=hrel;have HG:=aa hg;have ga:=aa dM;clear hg dM;by_cases ai:i<l.length
       .obtain⟨y,hy⟩:∃y,l[i]?=Zc y:=⟨l[i]'ai,Zu ai⟩
        obtain⟨g,m',rfl,ck,hn⟩:=HK.o i y hy;have co:=hn.op;have HY:=aa hy;have k1:(i:Za)<(l.length:Za):=by omega
        clear hy hn;have BO:i<t.size:=by omega
        have jn:=ew BO;have kt:(i:Za)<(t.size:Za):=by omega
        obtain⟨wi,tj⟩:∃wi,wi=((t[i]'BO).toNat:Za):=⟨_,rfl⟩
        have hq:gb t i=wi:=by rw[jn,tj]
        have HA:XX (tW Zd t i y=(decide (y.op=eF) != decide (wi=38))):=by show(decide (y.op=eF) != decide ((if Zd then 97 else gb t i)=38))=_;rw[Zh (by simp),hq]
        have zq:((y.op.toList==[38])=decide (y.op=eF)):=by
         by_cases h:y.op=eF
         .rw[uA (l:=[38]) h,ZK h]
         .rw[fZ (l:=[38]) h,Zz h]
        have fE:(wi==38)=decide (wi=38):=by by_cases h:wi=38 <;> simp[h]
        obtain⟨B1,dX⟩:∃B,decide (y.op=eF)=B:=⟨_,rfl⟩
        obtain⟨B2,bZ⟩:∃B,decide (wi=38)=B:=⟨_,rfl⟩
        rw[dX]at zq HA;rw[bZ]at fE HA;rw[tj]at fE;have mo:=HA;clear dX bZ HA;cases B1
        .cases B2
         .go_wp2;go_roundg (gk-1)
          case measure=>have:=HG.o;omega
          case rel=>
           refine⟨rfl,i+1,by omega,by have:=HG.o;omega,rfl,λj z hj hz=>?_⟩;rcases Zm j i with h|h
           .exact ga.o j z h hz
           .have e:j=i:=by omega
            subst e;rw[HY.o]at hz;injection hz with hz;rw[<-hz,mo.o];rfl
         .go_wp2;go_ret2;have oT:R=(a,4):=se.o (Zo (vg Zd t (k:=0) HY.o (by rw[Zn,mo.o];rfl)));exact⟨by rw[oT];rfl,rfl⟩
        .cases B2
         .go_wp2;go_ret2;have oT:R=(a,4):=se.o (Zo (vg Zd t (k:=0) HY.o (by rw[Zn,mo.o];rfl)));exact⟨by rw[oT];rfl,rfl⟩
         .go_wp2;go_roundg (gk-1)
          case measure=>have:=HG.o;omega
          case rel=>
           refine⟨rfl,i+1,by omega,by have:=HG.o;omega,rfl,λj z hj hz=>?_⟩;rcases Zm j i with h|h
           .exact ga.o j z h hz
           .have e:j=i:=by omega
            subst e;rw[HY.o]at hz;injection hz with hz;rw[<-hz,mo.o];rfl
       .have k1:¬((i:Za)<(l.length:Za)):=by omega
        go_wp2;go_meet
        case rel=>exact⟨rfl,dN.o (DT Zd t (k:=0) (λj y hj=>by rw[Zn];exact ga.o j y (by have:=(Zw.1 hj).1;omega) hj))⟩
     .have yv:XX (R=(a,4)):=by show _=_;exact F3.o (by omega) (Zo ⟨by rw[aH];exact hm,by rw[aH];exact gG⟩)
      have el0:((l.length:Za) != 2)=Zg:=ZC.2 (by omega);clear hm iB;go_wp2;go_ret2;exact⟨by rw[yv.o];rfl,rfl⟩
 case rest=>
  obtain⟨hw,HT⟩:=hcut;subst hw;go_wp2_with fail;go_loopg [8] (l.length+1) (λgh iv wr=>wc=wr/\∃i:O,i<=l.length/\gh=l.length+1-i/\iv=.int .i64 i/\∀(j:O) (y:Nd),j<i->l[j]?=Zc y->(iZ y).2=0)
  case atStart=>exact⟨rfl,0,by omega,by omega,rfl,λj y hj=>by omega⟩
  case round=>
   obtain⟨rfl,i,hi,hg,rfl,dM⟩:=hrel;have HG:=aa hg;have ga:=aa dM;clear hg dM;by_cases ai:i<l.length
   .obtain⟨y,hy⟩:∃y,l[i]?=Zc y:=⟨l[i]'ai,Zu ai⟩
    obtain⟨g,m',rfl,ck,hn⟩:=HK.o i y hy;have mp:=aa (nf.o y (ZB hy) _ A _ hn);obtain⟨z1,z2,hz⟩:∃z1 z2,iZ y=(z1,z2):=⟨_,_,rfl⟩
    rw[hz]at mp;have HY:=aa hy;have HZ:=aa hz;have k1:(i:Za)<(l.length:Za):=by omega
    clear hy hn hz;go_wp2_with fail;refine Zp mp.o ?_;rintro e w2 ⟨rfl,rfl⟩;by_cases h0:z2=0
    .subst h0;go_wp2;go_roundg (gk-1)
     case measure=>have:=HG.o;omega
     case rel=>
      refine⟨rfl,i+1,by omega,by have:=HG.o;omega,rfl,λj z hj hz=>?_⟩;rcases Zm j i with h|h
      .exact ga.o j z h hz
      .have e:j=i:=by omega
       subst e;rw[HY.o]at hz;injection hz with hz;rw[<-hz,HZ.o]
    .have e0:(z2 != 0)=Zg:=ZC.2 h0;go_wp2;go_ret2;exact⟨by rw[HT.o,Vx ga.o HY.o (by rw[HZ.o];exact h0),HZ.o];rfl,rfl⟩
   .have k1:¬((i:Za)<(l.length:Za)):=by omega
    go_wp2;go_ret2;exact⟨by rw[HT.o,Vz (λj y hj=>ga.o j y (by have:=(Zw.1 hj).1;omega) hj)];rfl,rfl⟩
mutual
theorem TH:∀(x:Nd),GG x
 |.mk op a s names l n0 n1 n2 i0 i1 i2 v=>akf op a s names l n0 n1 n2 i0 i1 i2 v (VA l)
theorem VA:∀(l:Zb Nd),∀y∈l,GG y
 |[],y,h=>by simp at h
 |x::l,y,h=>by
  rcases ZH.1 h with h|h
  .rw[h];exact TH x
  .exact VA l y h
end
def gI(u:Zf):Except (O×Za) Nd:=
 if 120<u.size then .error (0,1)
 else match fm (toks u) (bV (toks u) 12) 3 0 with
  |.error bad=>.error (bad,2)
  |.ok x=>if(bp (toks u) x.2).kind≠101 then .error (bE (toks u) x.2,2)
   else if eN x.1 then .error (0,6)
   else if(iZ x.1).2≠0 then .error (iZ x.1)else .ok x.1
def ow(u:Zf)(M:O)(w':Zt)(p:Zl)(a er:Za):Prop:=match gI u with
 |.error x=>p=.pointer Ze/\a=x.1/\er=x.2
 |.ok x=>a=0/\er=0/\aJ w' (λm=>M<=m) x p
theorem agV{N:O}{e:TypeId}{z:O}{v:Zl}{n:O}{xs:Zb Zl}(h:w.ownsRow N e z v n xs):w.ownsRow 0 e z v n xs:=
 ⟨h.1,h.2.imp id (λ⟨g,cap,cur,e,h0,r⟩=>⟨g,cap,cur,e,O.zero_le _,r⟩)⟩
theorem Bd(n:O):Zr w.heap.size w (w.drewN n):=⟨rfl,rfl,rfl,Zk _,λi hi=>rfl⟩
theorem acz{w1 w2:Zt}{b g cap:O}(hu:u.size<=120)(hb:w1.heap[b]?=Zc (.cells #[.slice Ze 0 0,.int .i64 0,.int .i64 0,.int .i64 (-1)] 124 (0,0)))(ba:Zr w1.heap.size w1 w2)
 (aO:qy w2 w1.heap.size (λm=>w1.heap.size<=m/\(ZN (Zc ⟨g,0,Ze⟩) (toks u).length cap).ownBlock≠Zc m) (.slice (Zc ⟨g,0,Ze⟩) (toks u).length cap) (toks u)):
 ax (w2.setCell ⟨b,0,Ze⟩ (.slice (Zc ⟨g,0,Ze⟩) (toks u).length cap)) (wU w2 (λm=>w1.heap.size<=m/\(ZN (Zc ⟨g,0,Ze⟩) (toks u).length cap).ownBlock≠Zc m)) b g cap (toks u) 0 0 (-1):=by
 have mG:=al hb;have ah:w2.heap[b]?=_:=(ba.block b mG).trans hb;obtain⟨f1,f2,f3,f4⟩:=Je u;have hg:w1.heap.size<=g:=by
  obtain⟨xs,h1,h2⟩:=aO;exact(Z0 h1 g rfl).1
 have Ss:∀m,m≠b->(w2.setCell ⟨b,0,Ze⟩ (.slice (Zc ⟨g,0,Ze⟩) (toks u).length cap)).heap[m]?=w2.heap[m]?:=λm hm=>ZO _ _ _ _ (by simpa using hm)
 refine⟨cY ah _,?_,by omega,λm hm=>by have:=hm.1.1;omega,by omega,f1,by omega,by omega,f3,λk x hx=>by have:=f4 k x hx;omega,λm hm=>?_⟩
 .obtain⟨xs,h1,h2⟩:=aO.nots;have ar:ab b w2 (w2.setCell ⟨b,0,Ze⟩ (.slice (Zc ⟨g,0,Ze⟩) (toks u).length cap)):=(ab.refl b w2).setCell _ _;exact⟨xs,agV (ZZ h1 ar (Zo (by simp[Zl.ownBlock];omega))),h2.keep (λm o hm ho=>⟨Ss m (by have:=hm.1.1;omega),hm⟩)⟩
 .obtain⟨o,ho,hn⟩:=hm.2;exact⟨o,(Ss m (by have:=hm.1.1;omega)).trans ho,hn⟩
theorem TT(u:Zf)(w:Zt)(iQ:u.size<=ZD):
 Zv prog 30 #[.string u] w λe w'=>∃p a er,e=.returned (.tuple #[p,.int .i64 a,.int .i64 er])/\Zr w.heap.size w w'/\XX (ow u w.heap.size w' p a er):=by
 unfold ZD at iQ;by_cases ns:120<u.size
 .have HR:XX (gI u=.error (0,1)):=by show _=_;rw[gI,Zi ns]
  go_enter func30,ntmps30;go_wp2;go_ret3;exact⟨_,_,_,rfl,ZE _ _,by show ow _ _ _ _ _ _;rw[ow,HR.o];exact⟨rfl,rfl,rfl⟩⟩
 .obtain⟨w1,dE⟩:∃w1,w1=w.alloc (.cells #[.slice Ze 0 0,.int .i64 0,.int .i64 0,.int .i64 (-1)] 124 (0,0)):=⟨_,rfl⟩
  have aT:XX (w1.heap[w.heap.size]?=Zc (.cells #[.slice Ze 0 0,.int .i64 0,.int .i64 0,.int .i64 (-1)] 124 (0,0))):=by show _=_;rw[dE];exact aE rfl
  have Wm:XX (Zr w.heap.size w w1):=by show Zr _ _ _;rw[dE];exact(ZE _ w).alloc (Zk _) _
  have eM:XX (w1.heap.size=w.heap.size+1):=by show _=_;rw[dE];simp
  have HT:=aa (ajL u w1 (by omega));subst dE;go_enter func30,ntmps30;go_wp2_with fail;refine Zp HT.o ?_;rintro e w2 ⟨v,rfl,ah,aO⟩;obtain⟨xs,gX,lP⟩:=aO.o;obtain⟨g,cap,rfl,BL,_⟩:=ZY gX (Je u).1;have hE:=acz (u:=u) (b:=w.heap.size) (by omega) aT.o ah ⟨xs,gX,lP⟩;obtain⟨V,hV⟩:∃V,V=wU w2 (λm=>(w.alloc (.cells #[.slice Ze 0 0,.int .i64 0,.int .i64 0,.int .i64 (-1)] 124 (0,0))).heap.size<=m/\(ZN (Zc ⟨g,0,Ze⟩) (toks u).length cap).ownBlock≠Zc m):=⟨_,rfl⟩
  rw[<-hV]at hE;have Pa:XX (∀m,V m->w.heap.size<=m/\m<w2.heap.size):=by
   intro m hm;rw[hV]at hm;obtain⟨⟨h1,_⟩,o,ho,_⟩:=hm;have:=eM.o;exact⟨by omega,al ho⟩
  have sL:w2.heap[w.heap.size]?=Zc (.cells #[.slice Ze 0 0,.int .i64 0,.int .i64 0,.int .i64 (-1)] 124 (0,0)):=(ah.block _ (al aT.o)).trans aT.o;have q0:w2.cell? ⟨w.heap.size,0,Ze⟩=Zc (.slice Ze 0 0):=by simp[ZX,sL]
  have qf:∀o,w2.frozen? ⟨w.heap.size,o,Ze⟩=Zd:=by intro o;simp[Zt.frozen?,sL]
  have HX:=aa (abP V w.heap.size g cap (toks u) _ 0 hE (λm hm=>by have:=(Pa.o m hm).2;simpa[ZI]using this));have aY:XX (Zr w.heap.size w (w2.setCell ⟨w.heap.size,0,Ze⟩ (.slice (Zc ⟨g,0,Ze⟩) (toks u).length cap))):=by
   refine((Wm.o.trans (ZL ah (by have:=eM.o;omega)))).trans ⟨rfl,rfl,rfl,by simp[ZI],λi hi=>ZO _ _ _ _ (by intro e;have e:i=w.heap.size:=e;omega)⟩
  have Ij:w.heap.size<=w2.heap.size:=by have:=ah.size;have:=eM.o;omega
  clear ah aO gX lP hE hV sL HT;go_wp2_with fail;refine Zp HX.o ?_;rintro e w4 ⟨p,rfl,aB,cP⟩;have hP:∃m,p=.pointer (Zc ⟨m,0,Ze⟩):=by
   rcases cP with⟨y,j4,hy,j5,dB,fc⟩|⟨bad5,j4,hy,dB,fc⟩
   .obtain⟨m4,e4,_⟩:=fc.o.ptr;exact⟨m4,e4⟩
   .obtain⟨m4,e4,_⟩:=fc.o.ptr;exact⟨m4,e4⟩
  obtain⟨m0,rfl⟩:=hP;have bq:XX (Zr w.heap.size w w4):=aY.o.trans (aB.below (Zk _) (by simpa[ZI]using Ij));have q9:=aa (show ¬120<u.size from ns);clear aB q0 qf HX;rcases cP with⟨x,j,hx,ej,hp,hn⟩|⟨bad,j,hx,hp,hn⟩
  .obtain⟨k0,k1,k2,k3,kf⟩:=gE hp.blk;have jL:=hp.il;have hln:=hp.len;obtain⟨y,hy⟩:∃y,(toks u)[j]?=Zc y:=⟨(toks u)[j]'jL,Zu jL⟩
   obtain⟨t,at'⟩:=y;obtain⟨q,_,y0,y1,y2,y3,y4⟩:=hp.row.cells hy;have aL:=aa (Ao hy);have HP:=aa hp;have AW:=aa hx.o;have HN:XX (aJ w4 (λm=>w.heap.size<=m) x (.pointer (Zc ⟨m0,0,Ze⟩))):=aJ.keep (λm o hm ho=>⟨rfl,by rcases hm with h|h;exact(Pa.o m h).1;simp[ZI]at h;omega⟩) _ _ hn.o;clear hp hy hx hn y1 y2 y3 y4 k2;by_cases hk:t.kind=101
   .have m101:(t.kind != 101)=Zd:=by rw[hk];rfl
    have uU:XX (gI u=if eN x then .error (0,6)else if(iZ x).2≠0 then .error (iZ x)else .ok x):=by
     show _=_;rw[gI,Zh q9.o,AW.o];simp only;rw[Zh (by rw[aL.o.1];exact λh=>h hk)]
    have sc:XX (∀n,Zv prog 61 #[.pointer (Zc ⟨m0,0,Ze⟩)] (w4.drewN n) λe w'=>e=.returned (.bool (eN x))/\w'=w4.drewN n):=λn=>PB x _ _ _ (aJ.keep (λm o hm ho=>⟨(Bd n).block m (al ho),hm⟩) _ _ HN.o)
    have wS:XX (∀n,Zv prog 62 #[.pointer (Zc ⟨m0,0,Ze⟩)] (w4.drewN n) λe w'=>e=.returned (.tuple #[.int .i64 (iZ x).1,.int .i64 (iZ x).2])/\w'=w4.drewN n):=λn=>TH x _ _ _ (aJ.keep (λm o hm ho=>⟨(Bd n).block m (al ho),hm⟩) _ _ HN.o)
    have gM:XX (∀n,Zr w.heap.size w (w4.drewN n)):=λn=>bq.o.trans (ZL (Bd n) bq.o.size)
    obtain⟨B,hB⟩:∃B,eN x=B:=⟨_,rfl⟩
    obtain⟨z1,z2,hz⟩:∃z1 z2,iZ x=(z1,z2):=⟨_,_,rfl⟩
    rw[hB]at sc uU;rw[hz]at wS uU;clear hk hB hz;go_wp2_with fail;go_quiet (fail);go_wp2_with fail;refine Zp (sc.o _) ?_;rintro e w5 ⟨rfl,Ck⟩;subst Ck;cases B
    .go_wp2_with fail;refine Zp (wS.o _) ?_;rintro e w5 ⟨rfl,Ck⟩;subst Ck;by_cases h0:z2=0
     .subst h0;go_wp2;go_ret3;exact⟨_,_,_,rfl,gM.o _,by show ow _ _ _ _ _ _;rw[ow,uU.o];exact⟨rfl,rfl,aJ.keep (λm o hm ho=>⟨(Bd _).block m (al ho),hm⟩) _ _ HN.o⟩⟩
     .have e0:(z2 != 0)=Zg:=ZC.2 h0;go_wp2;go_ret3;exact⟨_,_,_,rfl,gM.o _,by show ow _ _ _ _ _ _;rw[ow,uU.o,Zh (by simp),Zi h0];exact⟨rfl,rfl,rfl⟩⟩
    .go_wp2;go_ret3;exact⟨_,_,_,rfl,gM.o _,by show ow _ _ _ _ _ _;rw[ow,uU.o];exact⟨rfl,rfl,rfl⟩⟩
   .have m101:(t.kind != 101)=Zg:=ZC.2 hk;have uU:XX (gI u=.error (at',2)):=by
     show _=_;rw[gI,Zh q9.o,AW.o];simp only;rw[Zi (by rw[aL.o.1];exact hk),aL.o.2]
    have HF:XX (∀n,Zv prog 60 #[.pointer (Zc ⟨w.heap.size,0,Ze⟩)] (w4.drewN n) λe w'=>e=.returned (.tuple #[])/\ab w.heap.size (w4.drewN n) w'/\ax w' V w.heap.size g cap (toks u) j 0 (at':O)):=λn=>by
     have iz:=yW (HP.o.same (Bd n));rw[Zi (by omega),aL.o.2]at iz;exact iz
    clear hk;go_wp2_with fail;go_quiet (fail);go_wp2_with fail;refine Zp (HF.o _) ?_;rintro e w5 ⟨rfl,bP,dB⟩;obtain⟨r0,r1,r2,r3,rf⟩:=gE dB.blk;have gM:XX (Zr w.heap.size w w5):=(bq.o.trans (ZL (Bd _) bq.o.size)).trans (bP.below (Zk _) (by have:=bq.o.size;exact this));have Sb:¬((at':Za)<0):=by omega
    have um:(0:Za)<=(at':Za):=by omega
    clear bP dB r0 r1 r2;go_wp2_with fail
    go_region
    go_wp2;go_ret3;exact⟨_,_,_,rfl,gM.o.drew,by show ow _ _ _ _ _ _;rw[ow,uU.o];exact⟨rfl,rfl,rfl⟩⟩
  .obtain⟨k0,k1,k2,k3,kf⟩:=gE hp.blk;have uU:XX (gI u=.error (bad,2)):=by show _=_;rw[gI,Zh q9.o,hx.o]
   have Sb:¬((bad:Za)<0):=by omega
   have um:(0:Za)<=(bad:Za):=by omega
   have qH:decide ((bad:Za)<0)=Zd:=Zz Sb;clear hp hx hn k0 k1 k2;go_wp2_with fail
   go_region
   go_wp2_with fail
   go_region
   go_wp2;go_ret3;exact⟨_,_,_,rfl,bq.o.drew.drew,by show ow _ _ _ _ _ _;rw[ow,uU.o];exact⟨rfl,rfl,rfl⟩⟩
def gK(n:Za):Zb Zq:=if n<0 then 45::bW n.natAbs 1 else bW n.natAbs 1
theorem Qa(n least:O):(bW n least).length<=40:=by have:=Bn 40 n least [];simpa[bW]using this
theorem Vv(n:Za)(w:Zt)(h1:-1000000000<=n)(h2:n<=1000000000):
 Zv prog 64 #[.int .i64 n] w λe w'=>e=.returned (.string (bs (gK n)))/\Zr w.heap.size w w':=by
 have hl:=Qa n.natAbs 1;have HD:=aa (Qe n.natAbs 1 w (by omega) (by omega));obtain⟨x,hx⟩:∃x,x=bs (bW n.natAbs 1):=⟨_,rfl⟩
 have Ff:x.size<=40:=by rw[hx];show(bW n.natAbs 1).toArray.size<=40;simpa using hl
 have HX:=aa hx;rw[show(⟨(bW n.natAbs 1).toArray⟩:Zf)=x from hx.symm]at HD;by_cases hn:n<0
 .have E2:((n.natAbs:O):Za)=-n:=by omega
  rw[E2]at HD;have HR:XX (bs (gK n)=⟨#[45]⟩++x):=by
   show _=_;rw[gK,Zi hn,HX.o]
   rfl
  clear E2 hx hl;go_enter func64,ntmps64;go_wp2_with fail;refine Zp HD.o ?_;rintro e w2 ⟨rfl,rfl⟩;go_wp2;go_ret;exact⟨by rw[HR.o];rfl,ZE _ _⟩
 .have E2:((n.natAbs:O):Za)=n:=by omega
  rw[E2]at HD;have HR:XX (bs (gK n)=x):=by show _=_;rw[gK,Zh hn,HX.o]
  clear E2 hx hl;go_enter func64,ntmps64;go_wp2_with fail;refine Zp HD.o ?_;rintro e w2 ⟨rfl,rfl⟩;go_wp2;go_ret;exact⟨by rw[HR.o];rfl,ZE _ _⟩
def dm(ks:Zb (Zb Zq)):Zb (Zb Zq)->Zb Zq
 |[]=>[]
 |[x]=>(ks.headD [])++x
 |x::l=>(ks.headD [])++x++32::dm ks.tail l
def fC(i:Zj)(n:Za):Zb Zq:=if i then gK n else[]
def gr(op s:Zf)(inn:Zb Zq)(n0 n1 n2:Za)(i0 i1 i2:Zj)(v:Zy (VT 12)):Zb Zq:=
 if op=oP then 46::dt s.data.toList
 else if op=lA\/op=eV then op.data.toList
 else if op=rX then dt s.data.toList
 else if op=kr then 96::(match v with|some v=>aF 12 v|none=>[])++[96]
 else if op=eX then(if inn=[]then 40::s.data.toList++[41]else 40::s.data.toList++32::inn++[41])
 else if op=m8 then 91::inn++[93]
 else if op=fi then 123::inn++[125]
 else if op=oO then 91::gK n0++[93]
 else if op=j7 then 91::fC i0 n0++58::fC i1 n1++58::fC i2 n2++[93]
 else if op=pA then[91,42,93]
 else if op=qj then[91,93]
 else if op=om then[91,63,32]++inn++[93]
 else 40::op.data.toList++32::inn++[41]
mutual
def gZ:Nd->Zb Zq
 |.mk op _ s names l n0 n1 n2 i0 i1 i2 v=>gr op s (dm (if op=fi then names.map (λk=>dt k.data.toList++[32])else[]) (cq l)) n0 n1 n2 i0 i1 i2 v
def cq:Zb Nd->Zb (Zb Zq)
 |[]=>[]
 |x::l=>gZ x::cq l
end
def oN(u:Zf):Zb Zq×O×Za:=match gI u with
 |.error x=>([],x.1,x.2)
 |.ok x=>(gZ x,0,0)
def iI:Zb Zf->O
 |[]=>0
 |k::ks=>6*k.size+10+iI ks
mutual
def jQ:Nd->O
 |.mk op _ s names l _ _ _ _ _ _ _=>1000000+op.size+6*s.size+iI names+eW l
def eW:Zb Nd->O
 |[]=>0
 |x::l=>jQ x+1+eW l
end
theorem I1:∀(l:Zb Nd) (x:Nd),eW (l++[x])=eW l+jQ x+1
 |[],x=>by rw[ZU,eW,eW,eW];omega
 |y::l,x=>by rw[ZP,eW,eW,I1 l x];omega
theorem US:∀(l m:Zb Zf),iI (l++m)=iI l+iI m
 |[],m=>by rw[ZU,iI];omega
 |y::l,m=>by rw[ZP,iI,iI,US l m];omega
theorem px(op:Zf)(a:O)(s:Zf)(names:Zb Zf)(l:Zb Nd)(n0 n1 n2:Za)(i0 i1 i2:Zj)(v:Zy (VT 12)):jQ (.mk op a s names l n0 n1 n2 i0 i1 i2 v)=1000000+op.size+6*s.size+iI names+eW l:=by rw[jQ]
theorem rU(op:Zf)(l:Zb Nd):jQ (dn op l)=1000000+op.size+eW l:=by
 rw[dn,jQ,iI];have:(⟨#[]⟩:Zf).size=0:=rfl;omega
theorem FI(x:Nd):eW [x]=jQ x+1:=by rw[eW,eW]
theorem UT(x y:Nd):eW [x,y]=jQ x+jQ y+2:=by rw[eW,eW,eW];omega
def nl(R:O->PR):Prop:=∀i x j,R i=.ok (x,j)->jQ x+2000000+4000000*i<=4000000*j
def rd:bc->Prop
 |none=>True
 |some f=>nl f.1/\nl f.2
def GD(thing:O->Except O (Zb Zf×Nd×O)):Prop:=∀i y,thing i=.ok y->iI y.1+jQ y.2.1+1+4000000*i<=4000000*y.2.2
def kF(T:Zb (aj×O)):Prop:=∀k,(bp T k).txt.size<=1000
theorem IV{T:Zb (aj×O)}{thing:O->Except O (Zb Zf×Nd×O)}(ht:GD thing):∀(f:O) (ks:Zb Zf) (l:Zb Nd) (i:O) (y:Zb Zf×Zb Nd×O),dY T thing f ks l i=.ok y->iI y.1+eW y.2.1+4000000*i<=iI ks+eW l+4000000*y.2.2
 |0,ks,l,i,y,h=>by rw[dY]at h;injection h with h;subst h;exact Zk _
 |f+1,ks,l,i,y,h=>by
  rw[dY]at h;cases hx:thing i with
  |error e=>rw[hx]at h;cases h
  |ok z=>
   rw[hx]at h;have h1:=ht i z hx;simp only at h;have e1:=I1 l z.2.1;have e2:=US ks z.1;split at h
   .have:=IV ht f _ _ _ _ h;omega
   .injection h with h;subst h;simp only;omega
section
variable {T:Zb (aj×O)}
theorem afU(hm:nl ex):GD (kn ex):=by
 intro i y h;unfold kn at h;cases hx:ex i with
 |error e=>rw[hx]at h;cases h
 |ok z=>rw[hx]at h;injection h with h;subst h;have:=hm i z.1 z.2 hx;simp only[iI];omega
theorem aa1(hm:nl ex):GD (ke T ex):=by
 intro i y h;unfold ke at h;split at h
 .cases hx:ex (i+1)with
  |error e=>rw[hx]at h;cases h
  |ok z=>
   rw[hx]at h;injection h with h;subst h;have:=hm (i+1) z.1 z.2 hx;simp only[iI,rU,FI];have:eF.size=1:=rfl;omega
 .cases hx:ex i with
  |error e=>rw[hx]at h;cases h
  |ok z=>rw[hx]at h;injection h with h;subst h;have:=hm i z.1 z.2 hx;simp only[iI];omega
theorem agq(hm:nl ex)(hT:kF T):GD (ji T ex):=by
 intro i y h;unfold ji at h;split at h
 .split at h
  .cases hx:ex (i+2)with
   |error e=>rw[hx]at h;cases h
   |ok z=>rw[hx]at h;injection h with h;subst h;have:=hm (i+2) z.1 z.2 hx;have:=hT i;simp only[iI];omega
  .cases h
 .cases h
theorem abr(hm:rd inn)(hT:kF T):nl (mx T inn):=by
 intro i x j h;have h0:=hT i;have hw:eX.size=4:=rfl;cases inn with
 |none=>cases h
 |some f=>
  unfold mx at h;simp only at h;split at h
  .injection h with h;injection h with h1 h2;subst h1;rw[px,iI,eW];omega
  .cases hx:dY T (ke T f.2) T.length [] [] (i+2)with
   |error e=>rw[hx]at h;cases h
   |ok z=>
    rw[hx]at h;have h1:=IV (aa1 hm.2) _ _ _ _ _ hx;obtain⟨h2,h3⟩:=pn h;subst h2;rw[px,iI];rw[iI,eW]at h1;omega
theorem MM(hm:rd inn):nl (ko T inn):=by
 intro i x j h;have hw:m8.size=4:=rfl;cases inn with
 |none=>cases h
 |some f=>
  unfold ko at h;simp only at h;cases hx:dY T (kn f.2) T.length [] [] (i+1)with
  |error e=>rw[hx]at h;cases h
  |ok z=>
   rw[hx]at h;have h1:=IV (afU hm.2) _ _ _ _ _ hx;obtain⟨h2,h3⟩:=pn h;subst h2;rw[rU];rw[iI,eW]at h1;omega
theorem agQ(hm:rd inn)(hT:kF T):nl (oj T inn):=by
 intro i x j h;have hw:fi.size=6:=rfl;have he:(⟨#[]⟩:Zf).size=0:=rfl;cases inn with
 |none=>cases h
 |some f=>
  unfold oj at h;simp only at h;cases hx:dY T (ji T f.2) T.length [] [] (i+1)with
  |error e=>rw[hx]at h;cases h
  |ok z=>
   rw[hx]at h;have h1:=IV (agq hm.2 hT) _ _ _ _ _ hx;obtain⟨h2,h3⟩:=pn h;subst h2;rw[px];rw[iI,eW]at h1;omega
theorem afC{f:(O->PR)×(O->PR)}(hm:nl f.2)(h:fH T f i=.ok (x,j)):jQ x+4000000*i<=1000010+4000000*j:=by
 have b1:=Bg (T:=T) i;have b2:=Bg (T:=T) ((aZ T i).2.2+1);have b3:=Bg (T:=T) ((aZ T ((aZ T i).2.2+1)).2.2+1);have he:(⟨#[]⟩:Zf).size=0:=rfl;have w1:qj.size=4:=rfl;have w2:pA.size=6:=rfl;have w3:om.size=6:=rfl;have w4:oO.size=2:=rfl;have w5:j7.size=5:=rfl;unfold fH at h;split at h
 .injection h with h;injection h with h1 h2;subst h1;rw[nH,rU,eW];omega
 split at h
 .injection h with h;injection h with h1 h2;subst h1;rw[nH,rU,eW];omega
 split at h
 .cases hx:f.2 (i+1)with
  |error e=>rw[hx]at h;cases h
  |ok z=>rw[hx]at h;injection h with h;injection h with h1 h2;subst h1;have:=hm (i+1) z.1 z.2 hx;rw[rU,FI];omega
 split at h
 .split at h
  .split at h
   .cases h
   .injection h with h;injection h with h1 h2;subst h1;rw[px,iI,eW];omega
  .injection h with h;injection h with h1 h2;subst h1;rw[px,iI,eW];omega
 split at h
 .injection h with h;injection h with h1 h2;subst h1;rw[px,iI,eW];omega
 .cases h
theorem Kr(hm:rd inn):nl (jy T inn):=by
 intro i x j h;cases inn with
 |none=>cases h
 |some f=>
  unfold jy at h;simp only at h;cases hx:fH T f (i+1)with
  |error e=>rw[hx]at h;cases h
  |ok z=>
   rw[hx]at h;have h1:=afC hm.2 (x:=z.1) (j:=z.2) hx;obtain⟨h2,h3⟩:=pn h;subst h2;omega
theorem Nf(hm:rd inn)(hT:kF T):nl (fR T inn):=by
 intro i x j h;have h0:=hT i;have w1:oP.size=4:=rfl;have w2:eV.size=1:=rfl;unfold fR at h;split at h
 .exact abr hm hT i x j h
 split at h
 .injection h with h;injection h with h1 h2;subst h1;rw[tq,px,iI,eW];omega
 split at h
 .injection h with h;injection h with h1 h2;subst h1;rw[nH,rU,eW];omega
 split at h
 .exact agQ hm hT i x j h
 .cases h
theorem acQ(hm:rd inn)(hT:kF T):nl (fx T inn):=by
 intro i x j h;have h0:=hT i;have he:(⟨#[]⟩:Zf).size=0:=rfl;have w1:rX.size=4:=rfl;have w2:kr.size=5:=rfl;have w3:fa.size=1:=rfl;have w4:lA.size=1:=rfl;unfold fx at h;split at h
 .injection h with h;injection h with h1 h2;subst h1;rw[tq,px,iI,eW];omega
 split at h
 .injection h with h;injection h with h1 h2;subst h1;rw[px,iI,eW];omega
 split at h
 .cases inn with
  |none=>cases h
  |some f=>
   simp only at h;cases hx:f.2 (i+1)with
   |error e=>rw[hx]at h;cases h
   |ok z=>
    rw[hx]at h;have h1:=hm.2 (i+1) z.1 z.2 hx;obtain⟨h2,h3⟩:=pn h;subst h2;split
    .rw[rU,FI];omega
    .omega
 split at h
 .split at h
  .exact Kr hm i x j h
  .exact MM hm i x j h
 split at h
 .injection h with h;injection h with h1 h2;subst h1;rw[nH,rU,eW];omega
 .exact Nf hm hT i x j h
theorem KA(hm:rd inn)(hT:kF T):∀(f:O) (l:Zb Nd) (i:O) (y:Zb Nd×O),d7 T inn f l i=.ok y->eW y.1+1999999*y.1.length+4000000*i<=eW l+1999999*l.length+4000000*y.2
 |0,l,i,y,h=>by rw[d7]at h;injection h with h;subst h;exact Zk _
 |f+1,l,i,y,h=>by
  rw[d7]at h;split at h
  .split at h
   .cases h
   .rename_i z hx
    have h1:=KA hm hT f _ _ _ h;rw[I1,Zx,ZA]at h1;split at hx
    .have h2:=MM hm (i+1) z.1 z.2 hx;omega
    .have h2:=Nf hm hT (i+1) z.1 z.2 hx;omega
  split at h
  .cases hx:jy T inn i with
   |error e=>rw[hx]at h;cases h
   |ok z=>
    rw[hx]at h;have h2:=Kr hm i z.1 z.2 hx;have h1:=KA hm hT f _ _ _ h;rw[I1,Zx,ZA]at h1;omega
  .injection h with h;subst h;exact Zk _
theorem Kx:∀(f:O) (l:Zb Nd) (i:O) (y:Zb Nd×O),d7 T inn f l i=.ok y->l.length<=y.1.length
 |0,l,i,y,h=>by rw[d7]at h;injection h with h;subst h;exact Zk _
 |f+1,l,i,y,h=>by
  rw[d7]at h;split at h
  .split at h
   .cases h
   .have h1:=Kx f _ _ _ h;rw[Zx]at h1;omega
  split at h
  .split at h
   .cases h
   .have h1:=Kx f _ _ _ h;rw[Zx]at h1;omega
  .injection h with h;subst h;exact Zk _
theorem Kw(hm:rd inn)(hT:kF T):∀(f:O) (l:Zb Nd) (i:O) (y:Zb Nd×O),d7 T inn f l i=.ok y->i<=y.2
 |0,l,i,y,h=>by rw[d7]at h;injection h with h;subst h;exact Zk _
 |f+1,l,i,y,h=>by
  rw[d7]at h;split at h
  .split at h
   .cases h
   .rename_i z hx
    have h1:=Kw hm hT f _ _ _ h;split at hx
    .have h2:=MM hm (i+1) z.1 z.2 hx;omega
    .have h2:=Nf hm hT (i+1) z.1 z.2 hx;omega
  split at h
  .cases hx:jy T inn i with
   |error e=>rw[hx]at h;cases h
   |ok z=>
    rw[hx]at h;have h2:=Kr hm i z.1 z.2 hx;have h1:=Kw hm hT f _ _ _ h;omega
  .injection h with h;subst h;exact Zk _
theorem PP(hm:rd inn)(hT:kF T):nl (fb T inn):=by
 intro i x j h;have w3:fa.size=1:=rfl;unfold fb at h;cases hx:fx T inn i with
 |error e=>rw[hx]at h;cases h
 |ok z=>
  rw[hx]at h;have h1:=acQ hm hT i z.1 z.2 hx;simp only at h;cases hy:d7 T inn T.length [z.1] z.2 with
  |error e=>rw[hy]at h;cases h
  |ok y=>
   rw[hy]at h;injection h with h;injection h with h2 h3;have h4:=KA hm hT _ _ _ _ hy;have h5:=Kx _ _ _ _ hy;have h6:=Kw hm hT _ _ _ _ hy;rw[FI]at h4;simp only[ZA]at h4 h5;split at h2
   .subst h2;omega
   .subst h2;rw[rU];omega
theorem P0:∀{l:Zb Zf} {s:Zf},(∀x∈l,x.size<=2)->ln T i l=Zc s->s.size<=2
 |[],s,hl,h=>by cases h
 |x::l,s,hl,h=>by
  rw[ln]at h;split at h
  .injection h with h;subst h;exact hl _ (Zb.mem_cons_self ..)
  .exact P0 (λy hy=>hl y (Zb.mem_cons_of_mem _ hy)) h
theorem Tz(hm:rd inn)(hT:kF T):nl (fA T inn):=by
 intro i x j h;have w3:jk.size=1:=rfl;unfold fA at h;split at h
 .cases inn with
  |none=>cases h
  |some f=>
   simp only at h;cases hx:f.1 (i+1)with
   |error e=>rw[hx]at h;cases h
   |ok z=>rw[hx]at h;injection h with h;injection h with h1 h2;have:=hm.1 (i+1) z.1 z.2 hx;subst h1;rw[rU,FI];omega
 .cases hx:fb T inn i with
  |error e=>rw[hx]at h;cases h
  |ok z=>
   rw[hx]at h;have h1:=PP hm hT i z.1 z.2 hx;simp only at h;cases hc:ln T z.2 ii with
   |none=>rw[hc]at h;injection h with h;subst h;exact h1
   |some s=>
    rw[hc]at h;simp only at h;have hs:=P0 (by decide) hc;cases hy:fb T inn (z.2+1)with
    |error e=>rw[hy]at h;cases h
    |ok y=>rw[hy]at h;injection h with h;injection h with h2 h3;have:=PP hm hT (z.2+1) y.1 y.2 hy;subst h2;rw[rU,UT];omega
theorem TQ(hm:nl part)(hs:s.size<=2):∀(f:O) (x:Nd) (i:O) (y:Nd×O),ly T part s f x i=.ok y->jQ y.1+4000000*i<=jQ x+4000000*y.2
 |0,x,i,y,h=>by rw[ly]at h;injection h with h;subst h;exact Zk _
 |f+1,x,i,y,h=>by
  rw[ly]at h;split at h
  .cases hx:part (i+1)with
   |error e=>rw[hx]at h;cases h
   |ok z=>rw[hx]at h;have h1:=hm (i+1) z.1 z.2 hx;have h2:=TQ hm hs f _ _ _ h;rw[rU,UT]at h2;omega
  .injection h with h;subst h;exact Zk _
theorem Nc(hm:nl part)(hs:s.size<=2):nl (iF T s part):=by
 intro i x j h;unfold iF at h;cases hx:part i with
 |error e=>rw[hx]at h;cases h
 |ok z=>rw[hx]at h;have h1:=hm i z.1 z.2 hx;have:=TQ hm hs _ _ _ _ h;simp only at this;omega
theorem Uu(hm:rd inn)(hT:kF T):nl (fm T inn 3):=Nc (Nc (Nc (Tz hm hT) (by decide)) (by decide)) (by decide)
theorem My(hT:kF T):∀n,rd (bV T n)
 |0=>trivial
 |n+1=>⟨Tz (My hT n) hT,Uu (My hT n) hT⟩
theorem Ur(hT:kF T)(h:fm T (bV T 12) 3 0=.ok (x,j)):jQ x<=4000000*j:=by
 have:=Uu (My hT 12) hT 0 x j h;omega
end
theorem Nw{u:Zf}:∀(f i:O) (out:Zb Zq),(iX u f i out).1.length<=out.length+f
 |0,i,out=>by rw[iX];simp
 |f+1,i,out=>by
  rw[iX];split
  .simp
  split
  .split
   .simp only;omega
   .simp
  split
  .split
   .have:=Nw (u:=u) f (i+2) (out++[ZW (gb u (i+1)).toNat]);rw[Zx,ZA]at this;omega
   .simp
  .have:=Nw (u:=u) f (i+1) (out++[ZW (gb u i).toNat]);rw[Zx,ZA]at this;omega
theorem U0(hu:u.size<=120):(aD u).1.txt.size<=1000:=by
 have he:(⟨#[]⟩:Zf).size=0:=rfl;have hx:((lC,0):aj×O).1.txt.size<=1000:=by decide
 rw[aD];split
 .simp only[ZG];omega
 split
 .rename_i gV
  split
  .have h1:0<u.size:=cC (k:=0) (by omega);have:=FM (s:=u) (u.size+1) (0+1) [] (by simp) (by omega);show(aw u 0).1.toArray.size<=1000;rw[aw,Zi gV];simp only[ZV];omega
  .exact hx
 split
 .split
  .exact hx
  .have:=Nw (u:=u) (u.size+1) 1 [];show(bs (oL u).1).size<=1000;rw[oL];show(iX u (u.size+1) 1 []).1.toArray.size<=1000;simp only[ZV];simp at this;omega
 split
 .split
  .exact hx
  .unfold qP;split
   .show(⟨#[]⟩:Zf).size<=1000;omega
   split
   .split
    .show(⟨#[]⟩:Zf).size<=1000;omega
    .exact hx
   .exact hx
 split
 .split
  .exact hx
  .show(⟨#[]⟩:Zf).size<=1000;omega
 split
 .simp only[ZG];omega
 split
 .simp only[ZG];omega
 .exact hx
theorem U6(hu:u.size<=120):∀(f i:O),∀x∈js u f i,x.1.txt.size<=1000
 |0,i,x,h=>by rw[js]at h;cases h
 |f+1,i,x,h=>by
  have hs:(u.extract (ak u i) u.size).size<=120:=by rw[ZG];omega
  rw[js]at h;split at h
  .rw[ZQ]at h;subst h;exact(show wB.txt.size<=1000 by decide)
  split at h
  .rw[ZQ]at h;subst h;exact U0 hs
  .rcases ZH.1 h with h|h
   .subst h;exact U0 hs
   .exact U6 hu f _ x h
theorem N7(hu:u.size<=120):kF (toks u):=by
 intro k;unfold bp;cases h:(toks u)[k]? with
 |none=>show(⟨#[]⟩:Zf).size<=1000;decide
 |some x=>exact U6 hu _ _ x (ZB h)
theorem TX(h:gI u=.ok x):jQ x<=1000000000:=by
 unfold gI at h;split at h
 .cases h
 .rename_i hu
  split at h
  .cases h
  .rename_i y hy
   have h1:=Ur (N7 (u:=u) (by omega)) (x:=y.1) (j:=y.2) hy;split at h
   .cases h
   rename_i hk
   have hj:y.2<(toks u).length:=by
    rcases Zm y.2 (toks u).length with h'|h'
    .exact h'
    .exact absurd (show(bp (toks u) y.2).kind≠101 by unfold bp;rw[Zb.getElem?_eq_none h'];decide) hk
   have hl:=(Je u).2.1;split at h
   .cases h
   split at h
   .cases h
   .injection h with h;subst h;omega
end Go.Proofs.YtdlgkgfeoiohiaaGreatDoor
