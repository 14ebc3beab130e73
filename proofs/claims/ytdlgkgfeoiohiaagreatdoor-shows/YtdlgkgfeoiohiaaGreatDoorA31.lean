/- Part 31. -/
import Derived.Test.YtdlgkgfeoiohiaaGreatDoorA28
import Derived.Test.YtdlgkgfeoiohiaaGreatDoorA30
open Bool renaming false -> Zq,true -> Zw
open Go renaming Value -> Zg,World -> Zl,Calls -> Zp
open Go.Calls renaming mono -> Zm
open Go.Instr renaming field -> ZH
open Go.RowKit renaming Below -> Zj
open Go.RowKit.Below renaming refl -> Zv,heap_alloc -> Zy,heap_setCell -> ZG,grown -> ZK,trans -> ZL
open Go.Value renaming string -> Zt
open Go.World renaming cell? -> Zx
open Go.World.ownsRow renaming lt -> ZE
open List renaming length_append -> Zk,length_cons -> Zn,length_nil -> Zr,getElem?_eq_getElem -> ZC,length_singleton -> ZI,append_assoc -> ZM,drop_eq_getElem_cons -> ZN,getElem?_eq_some_iff -> ZO,mem_cons -> ZP
open Nat renaming le_refl -> Zz,le_trans -> ZD,eq_zero_or_pos -> ZQ,lt_or_ge -> ZU
open Option renaming some -> Zb,none -> Zd
open _root_ renaming if_neg -> O,List -> Za,Nat -> Zc,Int -> Ze,ByteArray -> Zf,if_pos -> Zh,UInt8 -> Zi,Bool -> Zo,congrArg -> Zu,Option -> ZA,beq_eq_false_iff_ne -> ZB,decide_eq_true -> ZJ,decide_eq_false -> ZV
namespace Go.Proofs.YtdlgkgfeoiohiaaGreatDoor
set_option linter.unusedVariables false
set_option maxHeartbeats 16000000
set_option maxRecDepth 100000
open Go.RowKit J Go.Proofs.Tryz
variable {w w':Zl}{s op:Zf}{b i N g a i':Zc}{A:Zc->Prop}{n0 n1 n2:Ze}{i0 i1 i2:Zo}{v lsl nsl cv':Zg}{l:Za Nd}{J acc:Za Zi}{ks xs:Za (Za Zi)}{S:Addr}{names:Za Zf}{x:aj×Zc}
def aaM(u:Zf)(w:Zl)(g:Zc)(lv:Zg)(i:Zc)(l0:Za (aj×Zc))(xs:Za Zg)(wr:Zl):Prop:=
 Zj w.heap.size w wr/\w.heap.size<=wr.heap.size/\u.size<i+g/\l0.length<=i/\l0++js u g i=toks u/\wr.ownsRow w.heap.size 63 6 lv l0.length xs/\nQ wr (λm=>w.heap.size<=m/\lv.ownBlock≠Zb m) l0 xs
theorem agW(hraw:Gy)(u:Zf)(w:Zl)(hs:u.size<=1000){L N A J La:Addr}(h:fw w L S N A J La):
 Zp prog 25 #[.string u] w λe w'=>∃v,e=.returned v/\Zj w.heap.size w w'/\XX (A0 w' w.heap.size (λm=>w.heap.size<=m/\v.ownBlock≠Zb m) v (toks u)):=by
 have HS:=aa h;have aan:=aa hraw;clear h hraw;go_enter func25,ntmps25;go_wp2_with fail;go_loopg [3,4] (u.size+1) (λg lv iv wr=>∃i l0 xs,i<=u.size/\iv=.int .i64 (i:Zc)/\aaM u w g lv i l0 xs wr)
 case atStart=>exact⟨0,[],[],by omega,rfl,Zv _ _,Zz _,by omega,by simp,rfl,Zl.ownsRow_nil _ _ _ _,rfl⟩
 case round=>
  obtain⟨i,l0,xs,fX,rfl,hT⟩:=hrel;obtain⟨f,rfl⟩:∃f,gk=f+1:=⟨gk-1,by have:=hT.2.2.1;omega⟩
  obtain⟨ba,aH,p8,gG,hF,am,qF⟩:=hT;have HF:=aa hF;have jS:=aa am;have Dc:=aa qF;have wE:=aa ba;have az:l0.length<=100000:=by omega
  have eM:=aa (HS.o.below ba);have HB:=aa (ag3 u i wr hs fX);have l8:=fJ u i;have nu:=iH u i fX;have Er:=ajM (u:=u) (f:=f) (i:=i);obtain⟨j,hj⟩:∃j,j=ak u i:=⟨_,rfl⟩
  rw[<-hj]at HB l8 nu Er;have gW:=ajv nu;have JK:XX (∀W,fw W L S N A J La->Zp prog 52 #[.string (u.extract j u.size)] W λe w'=>∃v,∃z:Zc,e=.returned (.tuple #[aI (aS (jE u j).1.kind) 0 (jE u j).1.txt (jE u j).1.num v (eL (jE u j).1),.int .i64 z])/\(z=(jE u j).2\/(jE u j).1.kind=120)/\Zj W.heap.size W w'/\eI v/\XX (PV w' (λm=>W.heap.size<=m) (jE u j).1 v)):=λW hW=>ahe aan.o u j W hs nu hW
  obtain⟨K,z,hK⟩:∃K z,jE u j=(K,z):=⟨_,_,rfl⟩
  rw[hK]at Er gW JK;simp only at Er gW JK;have O3:=aa Er;have i1:(i:Ze)<=(u.size:Ze):=by omega
  have i2:(j:Ze)<=(u.size:Ze):=by omega
  have i3:(i:Ze)<=(j:Ze):=by omega
  clear ba hF am qF Er hj hK;go_wp2_with fail;refine Zm HB.o ?_;rintro e w1 ⟨rfl,ae⟩;have fj:=aa (eM.o.below ae);go_wp2_with fail;rw[show(i:Ze)+((j:Ze)-(i:Ze))=(j:Ze)from by omega];refine(JK.o w1 fj.o).mono ?_;rintro e w2 ⟨v,z1,rfl,ee,ah,hv,dj⟩;have Ph:=aa ee;clear ee;have rt:Zj wr.heap.size wr w2:=ae.trans (ah.mono ae.size);have Aw:=aa rt;have yn:=aa hv;have OX:=aa (Aa jS.o rt);have dP:w.heap.size<=w2.heap.size:=ZD aH rt.size;have nh:XX (PV w2 (λm=>wr.heap.size<=m) K v):=dj.o.keep (λm h1 _=>⟨rfl,ZD ae.size h1⟩);rw[aI];clear ae ah rt dj;rcases hv with rfl|⟨tv,xv,rfl⟩
  .go_wp2_with (at_builtin;refine Pp rfl (.tmp 22) (.tmp 24) rfl w.heap.size _ l0.length xs rfl ?h1a _ _ K j .nilIface yn.o rfl ?h2a ?h3a ?h4a (w2.heap.size+2) ?h5a ?_)
   case h1a=>exact(OX.o.alloc _).alloc _
   case h2a=>exact Uh (by simp)
   case h3a=>exact az
   case h4a=>simp;omega
   case h5a=>simp
   intro g cap w3 bz aP lu un;obtain⟨W,hW⟩:∃W,W=(w2.alloc (.cells #[.int .i64 (aS K.kind),.int .i64 j,.string K.txt,.int .i64 K.num,.nilIface,.bool (eL K)] 63)).alloc (.cells #[.int .i64 (aS K.kind),.int .i64 j,.string K.txt,.int .i64 K.num,.nilIface,.bool (eL K)] 63):=⟨_,rfl⟩
   have lr:W.heap.size=w2.heap.size+2:=by rw[hW];simp
   have jK:∀m,m<w2.heap.size->W.heap[m]?=w2.heap[m]?:=λm hm=>by rw[hW,Zy _ _ _ (by simp;omega),Zy _ _ _ hm]
   have Eu:W.heap[w2.heap.size]?=Zb (.cells #[.int .i64 (aS K.kind),.int .i64 j,.string K.txt,.int .i64 K.num,.nilIface,.bool (eL K)] 63 (0,0)):=by rw[hW,Zy _ _ _ (by simp)];exact aE rfl
   rw[<-hW]at aP;have rI:∀b,u3.ownBlock=Zb b->w.heap.size<=b/\b<wr.heap.size:=λb hb=>⟨(ZE jS.o b hb).1,(ZE jS.o b hb).2⟩
   have ae6:=Aw.o.size;have lc:=aa (Ue (n:=l0.length+1) (cap:=cap) (g:=g) (M:=wr.heap.size) (k:=K) (a:=j) (q:=.nilIface) Dc.o (λb hb=>(rI b hb).2) (λm hm=>(jK m (by omega)).trans (Aw.o.block m hm)) (by omega) ⟨yn.o,nh.o.keep (λm h1 h2=>⟨jK m h2,h1⟩)⟩ aH aP (lu.imp_right λh=>by omega));have htc:w3.cell? ⟨w2.heap.size,0,Zd⟩=Zb (.int .i64 (aS K.kind)):=by
    have e:=aP.block w2.heap.size (by omega) (λe=>by have:=(rI _ e.symm).2;omega);simp[Zx,e,Eu]
   have bo:XX (Zj w.heap.size w w3):=ZK (wE.o.trans ((ZL Aw.o ⟨by rw[hW];rfl,by rw[hW];rfl,by rw[hW];rfl,by omega,λm hm=>jK m (by omega)⟩).mono aH)) aP (by omega) (λb hb=>(rI b hb).1);have qZ:=aa bz;have bm:w.heap.size<=w3.heap.size:=bo.o.size;clear bz aP lu un lr jK Eu rI hW;rcases O3.o with⟨hk|hk,iR⟩|⟨⟨fe,dh⟩,hz,iR⟩
   .have eY:XX (toks u=l0++[(K,j)]):=by show _=_;rw[<-HF.o,iR]
    have e0:(aS K.kind==0)=Zw:=by rw[hk];rfl
    clear hk iR;go_wp2;go_ret;refine⟨_,rfl,bo.o,?_⟩;show A0 _ _ _ _ _;rw[eY.o];exact⟨_,by rw[Zk];exact qZ.o,lc.o⟩
   .have eY:XX (toks u=l0++[(K,j)]):=by show _=_;rw[<-HF.o,iR]
    have e0:(aS K.kind==0)=Zq:=by rw[hk];rfl
    have e1:(aS K.kind==1)=Zw:=by rw[hk];rfl
    clear hk iR;go_wp2;go_ret;refine⟨_,rfl,bo.o,?_⟩;show A0 _ _ _ _ _;rw[eY.o];exact⟨_,by rw[Zk];exact qZ.o,lc.o⟩
   .obtain rfl:z1=z:=Ph.o.resolve_right (λe=>fe (by rw[e];decide));have eY:XX (l0++[(K,j)]++js u f (j+z1)=toks u):=by show _=_;rw[<-HF.o,iR,ZM];rfl
    have e0:(aS K.kind==0)=Zq:=ZB.2 fe;have e1:(aS K.kind==1)=Zq:=ZB.2 dh;clear fe dh iR;go_wp2;go_roundg f
    case measure=>omega
    case rel=>exact⟨j+z1,l0++[(K,j)],_,by omega,by go_num,bo.o,bm,by omega,by rw[Zk,ZI];omega,eY.o,by rw[Zk];exact qZ.o,lc.o⟩
  .go_wp2_with (at_builtin;refine Pp rfl (.tmp 22) (.tmp 24) rfl w.heap.size _ l0.length xs rfl ?h1b _ _ K j (.iface tv xv) yn.o rfl ?h2b ?h3b ?h4b (w2.heap.size+2) ?h5b ?_)
   case h1b=>exact(OX.o.alloc _).alloc _
   case h2b=>exact Uh (by simp)
   case h3b=>exact az
   case h4b=>simp;omega
   case h5b=>simp
   intro g cap w3 bz aP lu un;obtain⟨W,hW⟩:∃W,W=(w2.alloc (.cells #[.int .i64 (aS K.kind),.int .i64 j,.string K.txt,.int .i64 K.num,(.iface tv xv),.bool (eL K)] 63)).alloc (.cells #[.int .i64 (aS K.kind),.int .i64 j,.string K.txt,.int .i64 K.num,(.iface tv xv),.bool (eL K)] 63):=⟨_,rfl⟩
   have lr:W.heap.size=w2.heap.size+2:=by rw[hW];simp
   have jK:∀m,m<w2.heap.size->W.heap[m]?=w2.heap[m]?:=λm hm=>by rw[hW,Zy _ _ _ (by simp;omega),Zy _ _ _ hm]
   have Eu:W.heap[w2.heap.size]?=Zb (.cells #[.int .i64 (aS K.kind),.int .i64 j,.string K.txt,.int .i64 K.num,(.iface tv xv),.bool (eL K)] 63 (0,0)):=by rw[hW,Zy _ _ _ (by simp)];exact aE rfl
   rw[<-hW]at aP;have rI:∀b,u3.ownBlock=Zb b->w.heap.size<=b/\b<wr.heap.size:=λb hb=>⟨(ZE jS.o b hb).1,(ZE jS.o b hb).2⟩
   have ae6:=Aw.o.size;have lc:=aa (Ue (n:=l0.length+1) (cap:=cap) (g:=g) (M:=wr.heap.size) (k:=K) (a:=j) (q:=(.iface tv xv)) Dc.o (λb hb=>(rI b hb).2) (λm hm=>(jK m (by omega)).trans (Aw.o.block m hm)) (by omega) ⟨yn.o,nh.o.keep (λm h1 h2=>⟨jK m h2,h1⟩)⟩ aH aP (lu.imp_right λh=>by omega));have htc:w3.cell? ⟨w2.heap.size,0,Zd⟩=Zb (.int .i64 (aS K.kind)):=by
    have e:=aP.block w2.heap.size (by omega) (λe=>by have:=(rI _ e.symm).2;omega);simp[Zx,e,Eu]
   have bo:XX (Zj w.heap.size w w3):=ZK (wE.o.trans ((ZL Aw.o ⟨by rw[hW];rfl,by rw[hW];rfl,by rw[hW];rfl,by omega,λm hm=>jK m (by omega)⟩).mono aH)) aP (by omega) (λb hb=>(rI b hb).1);have qZ:=aa bz;have bm:w.heap.size<=w3.heap.size:=bo.o.size;clear bz aP lu un lr jK Eu rI hW;rcases O3.o with⟨hk|hk,iR⟩|⟨⟨fe,dh⟩,hz,iR⟩
   .have eY:XX (toks u=l0++[(K,j)]):=by show _=_;rw[<-HF.o,iR]
    have e0:(aS K.kind==0)=Zw:=by rw[hk];rfl
    clear hk iR;go_wp2;go_ret;refine⟨_,rfl,bo.o,?_⟩;show A0 _ _ _ _ _;rw[eY.o];exact⟨_,by rw[Zk];exact qZ.o,lc.o⟩
   .have eY:XX (toks u=l0++[(K,j)]):=by show _=_;rw[<-HF.o,iR]
    have e0:(aS K.kind==0)=Zq:=by rw[hk];rfl
    have e1:(aS K.kind==1)=Zw:=by rw[hk];rfl
    clear hk iR;go_wp2;go_ret;refine⟨_,rfl,bo.o,?_⟩;show A0 _ _ _ _ _;rw[eY.o];exact⟨_,by rw[Zk];exact qZ.o,lc.o⟩
   .obtain rfl:z1=z:=Ph.o.resolve_right (λe=>fe (by rw[e];decide));have eY:XX (l0++[(K,j)]++js u f (j+z1)=toks u):=by show _=_;rw[<-HF.o,iR,ZM];rfl
    have e0:(aS K.kind==0)=Zq:=ZB.2 fe;have e1:(aS K.kind==1)=Zq:=ZB.2 dh;clear fe dh iR;go_wp2;go_roundg f
    case measure=>omega
    case rel=>exact⟨j+z1,l0++[(K,j)],_,by omega,by go_num,bo.o,bm,by omega,by rw[Zk,ZI];omega,eY.o,by rw[Zk];exact qZ.o,lc.o⟩
def mY:Za (Za Zi)->Zc
 |[]=>0
 |x::l=>x.length+1+mY l
theorem RF(ks:Za (Za Zi)):(ks.headD []).length+mY ks.tail<=mY ks:=by
 cases ks with
 |nil=>simp[mY]
 |cons k ks=>simp only[Za.headD_cons,Za.tail_cons,mY];omega
theorem Ta(ks:Za (Za Zi))(x y:Za Zi)(l:Za (Za Zi)):dm ks (x::y::l)=(ks.headD [])++x++32::dm ks.tail (y::l):=by rw[dm];simp
theorem MH:∀(xs ks:Za (Za Zi)),(dm ks xs).length<=mY ks+mY xs
 |[],ks=>by rw[dm];simp
 |[x],ks=>by have:=RF ks;rw[dm,Zk,mY,mY];omega
 |x::y::l,ks=>by
  have h:=RF ks;have ih:=MH (y::l) ks.tail;rw[Ta,Zk,Zk,Zn,mY];omega
def jt(b:Zo)(ks:Za (Za Zi)):Za (Za Zi)->Za Zi
 |[]=>[]
 |x::xs=>(if b then[32]else[])++dm ks (x::xs)
theorem Tc(b:Zo)(ks:Za (Za Zi))(x:Za Zi)(xs:Za (Za Zi)):jt b ks (x::xs)=(if b then[32]else[])++(ks.headD []++(x++jt Zw ks.tail xs)):=by
 rw[jt]
 congr 1
 cases xs with
 |nil=>rw[dm,jt];simp
 |cons y l=>rw[Ta,jt];simp
theorem Tb(ks xs:Za (Za Zi)):dm ks xs=jt Zq ks xs:=by
 cases xs with
 |nil=>rw[dm,jt]
 |cons x xs=>rw[jt];simp
theorem Jm(n:Ze):(gK n).length<=41:=by
 have:=Qa n.natAbs 1;unfold gK;split
 .rw[Zn];omega
 .omega
theorem Bf(i:Zo)(n:Ze):(fC i n).length<=41:=by
 have:=Jm n;unfold fC;split
 .exact this
 .simp
theorem ajm{inn:Za Zi}{v:ZA (VT 12)}(hv:∀x,v=Zb x->(aF 12 x).length<=900000):(gr op s inn n0 n1 n2 i0 i1 i2 v).length<=1000000+op.size+6*s.size+inn.length:=by
 have q:=xO s.data.toList;have hs:s.data.toList.length=s.size:=by simp
 have ho:op.data.toList.length=op.size:=by simp
 have b0:=Bf i0 n0;have b1:=Bf i1 n1;have b2:=Bf i2 n2;have w0:=Jm n0;rw[hs]at q;unfold gr;by_cases c0:op=oP
 .rw[Zh c0];rw[Zn];omega
 rw[O c0];by_cases c1:op=lA\/op=eV
 .rw[Zh c1];omega
 rw[O c1];by_cases c2:op=rX
 .rw[Zh c2];omega
 rw[O c2];by_cases c3:op=kr
 .rw[Zh c3];cases v with
  |none=>simp only[Zn,Zk,Zr];omega
  |some x=>have:=hv x rfl;simp only[Zn,Zk,Zr];omega
 rw[O c3];by_cases c4:op=eX
 .rw[Zh c4];by_cases hj:inn=[]
  .rw[Zh hj];simp only[Zn,Zk,Zr];omega
  .rw[O hj];simp only[Zn,Zk,Zr];omega
 rw[O c4];by_cases c5:op=m8
 .rw[Zh c5];simp only[Zn,Zk,Zr];omega
 rw[O c5];by_cases c6:op=fi
 .rw[Zh c6];simp only[Zn,Zk,Zr];omega
 rw[O c6];by_cases c7:op=oO
 .rw[Zh c7];simp only[Zn,Zk,Zr];omega
 rw[O c7];by_cases c8:op=j7
 .rw[Zh c8];simp only[Zn,Zk,Zr];omega
 rw[O c8];by_cases c9:op=pA
 .rw[Zh c9];simp only[Zn,Zr];omega
 rw[O c9];by_cases c10:op=qj
 .rw[Zh c10];simp only[Zn,Zr];omega
 rw[O c10];by_cases c11:op=om
 .rw[Zh c11];simp only[Zn,Zk,Zr];omega
 rw[O c11];simp only[Zn,Zk,Zr];omega
theorem Td:∀(names:Za Zf),mY (names.map (λk=>dt k.data.toList++[32]))<=iI names
 |[]=>by simp[mY]
 |k::ks=>by
  have:=xO k.data.toList;have hs:k.data.toList.length=k.size:=by simp
  have ih:=Td ks;rw[Za.map_cons,mY,iI,Zk,ZI];omega
def mj(op:Zf)(names:Za Zf):Za (Za Zi):=if op=fi then names.map (λk=>dt k.data.toList++[32])else[]
theorem FG(op:Zf)(a:Zc)(s:Zf)(names:Za Zf)(l:Za Nd)(n0 n1 n2:Ze)(i0 i1 i2:Zo)(v:ZA (VT 12)):gZ (.mk op a s names l n0 n1 n2 i0 i1 i2 v)=gr op s (dm (mj op names) (cq l)) n0 n1 n2 i0 i1 i2 v:=by rw[gZ];rfl
theorem Te(op:Zf)(names:Za Zf):mY (mj op names)<=iI names:=by
 unfold mj;split
 .exact Td names
 .simp[mY]
mutual
def AY:Nd->Prop
 |.mk _ _ _ _ l _ _ _ _ _ _ v=>(∀x,v=Zb x->(aF 12 x).length<=900000)/\yL l
def yL:Za Nd->Prop
 |[]=>True
 |x::l=>AY x/\yL l
end
mutual
theorem aJ.nvt{w:Zl}{A:Zc->Prop}:∀{x:Nd} {p:Zg},aJ w A x p->AY x
 |.mk op a s names l n0 n1 n2 i0 i1 i2 v,p,h=>by
  unfold aJ at h;obtain⟨m,nsl,lsl,ps,q,hp,hA,hb,hn,hl,hs,hv⟩:=h;unfold AY;refine⟨λx e=>?_,cr.nvt hs⟩;subst e;exact hv.2.1
theorem cr.nvt{w:Zl}{A:Zc->Prop}:∀{l:Za Nd} {ps:Za Zg},cr w A l ps->yL l
 |[],ps,h=>by unfold yL;trivial
 |x::l,ps,h=>by
  unfold cr at h;obtain⟨p,ps',e,h1,h2⟩:=h;unfold yL;exact⟨aJ.nvt h1,cr.nvt h2⟩
end
mutual
theorem NE:∀(x:Nd),AY x->(gZ x).length<=jQ x
 |.mk op a s names l n0 n1 n2 i0 i1 i2 v,h=>by
  unfold AY at h;have h1:=ajm (op:=op) (s:=s) (inn:=dm (mj op names) (cq l)) (n0:=n0) (n1:=n1) (n2:=n2) (i0:=i0) (i1:=i1) (i2:=i2) h.1;have h2:=MH (cq l) (mj op names);have h3:=Te op names;have h4:=NF l h.2;rw[FG,px];omega
theorem NF:∀(l:Za Nd),yL l->mY (cq l)<=eW l
 |[],h=>by rw[cq,mY];exact Zc.zero_le _
 |x::l,h=>by
  unfold yL at h;have h1:=NE x h.1;have h2:=NF l h.2;rw[cq,mY,eW];omega
end
theorem IY:∀(l:Za Nd) (i:Zc),(cq l)[i]?=(l[i]?).map gZ
 |[],i=>by rw[cq];simp
 |x::l,0=>by rw[cq];rfl
 |x::l,i+1=>by rw[cq];simpa using IY l i
theorem IZ:∀(l:Za Nd),(cq l).length=l.length
 |[]=>by rw[cq];rfl
 |x::l=>by rw[cq,Zn,Zn,IZ l]
theorem NK:∀{l:Za Nd} {x:Nd},x∈l->jQ x<=eW l
 |[],x,h=>by cases h
 |y::l,x,h=>by
  rw[eW];rcases ZP.1 h with e|e
  .rw[e];omega
  .have:=NK e;omega
theorem aJ.below{x:Nd}{p:Zg}(h:aJ w A x p)(hb:Zj w.heap.size w w'):aJ w' A x p:=
 aJ.keep (λi o hA ho=>⟨hb.block i (al ho),hA⟩) x p h
theorem gi{o:Zc}(h:w.cell? ⟨g,o,Zd⟩=Zb v)(hb:Zj w.heap.size w w'):w'.cell? ⟨g,o,Zd⟩=Zb v:=by
 have ai:g<w.heap.size:=by
  rcases ZU g w.heap.size with h1|h1
  .exact h1
  .simp[Zx,Array.getElem?_eq_none h1]at h
 have e:=hb.block g ai;simp only[Zx]at h⊢;rw[e];exact h
theorem aJ.viewm{v:ZA (VT 12)}{m:Zc}(h:aJ w A (.mk op a s names l n0 n1 n2 i0 i1 i2 v) (.pointer (Zb ⟨m,0,Zd⟩))):
 ∃nsl lsl q,w.heap[m]?=Zb (bH op a s nsl lsl n0 n1 n2 i0 i1 i2 (.pointer q))/\OV w A v q/\ao w 9 nsl (kv names)/\wT w A l lsl/\l.length<=maxLen:=by
 obtain⟨m',nsl,lsl,q,e,h1,h2,h3,h4,h5⟩:=h.view;injection e with e;injection e with e;injection e with e;subst e;exact⟨nsl,lsl,q,h1,h2,h3,h4,h5⟩
theorem wT.get(h:wT w A l lsl){y:Nd}(hy:l[i]?=Zb y):∃g cap m,lsl=.slice (Zb ⟨g,0,Zd⟩) l.length cap/\w.cell? ⟨g,i,Zd⟩=Zb (.pointer (Zb ⟨m,0,Zd⟩))/\aJ w A y (.pointer (Zb ⟨m,0,Zd⟩)):=by
 rcases h with⟨h1,h2⟩|⟨g,cap,h1,h2⟩
 .rw[h2]at hy;cases hy
 .obtain⟨m,h3,h4⟩:=h2 i y hy;exact⟨g,cap,m,h1,h3,h4⟩
theorem wT.shape(h:wT w A l lsl):∃o cap,lsl=.slice o l.length cap:=by
 rcases h with⟨h1,h2⟩|⟨g,cap,h1,h2⟩
 .exact⟨Zd,0,by rw[h1,h2];rfl⟩
 .exact⟨_,cap,h1⟩
theorem af0{e:TypeId}(h:ao w e nsl (kv names))(hi:i<names.length):∃g cap,nsl=.slice (Zb ⟨g,0,Zd⟩) names.length cap/\w.cell? ⟨g,i,Zd⟩=Zb (.string (names[i]'hi)):=by
 have hl:(kv names).length=names.length:=by simp[kv]
 rcases h.len with⟨h1,h2⟩|⟨g,cap,h1,h2⟩
 .rw[h2]at hl;simp at hl;omega
 .refine⟨g,cap,by rw[h1,hl],?_⟩;rw[h1]at h;exact h.get (by simp[kv,hi])
theorem Tv{nb:Zc}(hb:w.heap[nb]?=Zb (bH op a s nsl lsl n0 n1 n2 i0 i1 i2 v)):
 w.cell? ⟨nb,5,Zd⟩=Zb (.int .i64 n0)/\w.cell? ⟨nb,6,Zd⟩=Zb (.int .i64 n1)/\w.cell? ⟨nb,7,Zd⟩=Zb (.int .i64 n2)/\w.cell? ⟨nb,8,Zd⟩=Zb (.bool i0)/\w.cell? ⟨nb,9,Zd⟩=Zb (.bool i1)/\w.cell? ⟨nb,10,Zd⟩=Zb (.bool i2):=by
 unfold bH at hb;refine⟨?_,?_,?_,?_,?_,?_⟩ <;> simp[Zx,hb]
theorem qg{l:Za Zi}(h:(s.toList==l)=Zw):s=⟨l.toArray⟩:=by
 rw[beq_iff_eq,ByteArray.toList_eq]at h;rw[<-h]
theorem qe{l:Za Zi}(h:(s.toList==l)=Zq):s≠⟨l.toArray⟩:=λe=>by rw[uA e]at h;cases h
def GB(x:Nd):Prop:=∀(w:Zl) (A:Zc->Prop) (p:Zg),aJ w A x p->lZ x->eN x=Zq->jQ x<=1000000000->Zp prog 31 #[p] w λe w'=>e=.returned (.string (bs (gZ x)))/\Zj w.heap.size w w'
def jw(J:Za Zi)(ks xs:Za (Za Zi))(i:Zc)(acc:Za Zi):Prop:=J=acc++jt (decide (0<i)) (ks.drop i) (xs.drop i)
theorem jw.start(ks xs:Za (Za Zi)):jw (dm ks xs) ks xs 0 []:=by unfold jw;rw[Tb];simp
theorem jw.fin{n:Zc}(h:jw J ks xs n acc)(hn:xs.length<=n):acc=J:=by
 unfold jw at h;rw[Za.drop_of_length_le hn,jt]at h;rw[h];simp
theorem jw.next{x:Za Zi}(h:jw J ks xs i acc)(hx:xs[i]?=Zb x):jw J ks xs (i+1) (acc++(if decide (0<i)then[32]else[])++(ks.drop i).headD []++x):=by
 unfold jw at h⊢;obtain⟨ai,he⟩:=ZO.1 hx;rw[ZN ai,Tc,he]at h;rw[h];simp
theorem jw.len(h:jw J ks xs i acc):acc.length<=J.length:=by
 unfold jw at h;rw[h,Zk];omega
theorem DZ(t:Zf):bs t.data.toList=t:=by simp[bs]
section
variable {op s:Zf} {J:Za Zi} {n0 n1 n2:Ze} {i0 i1 i2:Zo} {v:ZA (VT 12)}
theorem NV(h:op=oP):gr op s J n0 n1 n2 i0 i1 i2 v=46::dt s.data.toList:=by unfold gr;rw[Zh h]
theorem NM(h:op=lA):gr op s J n0 n1 n2 i0 i1 i2 v=op.data.toList:=by unfold gr;rw[O (by rw[h];decide),Zh (.inl h)]
theorem NN(h:op=eV):gr op s J n0 n1 n2 i0 i1 i2 v=op.data.toList:=by unfold gr;rw[O (by rw[h];decide),Zh (.inr h)]
theorem NZ(h:op=rX):gr op s J n0 n1 n2 i0 i1 i2 v=dt s.data.toList:=by unfold gr;rw[O (by rw[h];decide),O (by rw[h];decide),Zh h]
theorem NR(h:op=kr):gr op s J n0 n1 n2 i0 i1 i2 v=96::(match v with|some v=>aF 12 v|none=>[])++[96]:=by unfold gr;rw[O (by rw[h];decide),O (by rw[h];decide),O (by rw[h];decide),Zh h];cases v <;> rfl
theorem I6(h:op=eX):gr op s J n0 n1 n2 i0 i1 i2 v=(if J=[]then 40::s.data.toList++[41]else 40::s.data.toList++32::J++[41]):=by unfold gr;rw[O (by rw[h];decide),O (by rw[h];decide),O (by rw[h];decide),O (by rw[h];decide),Zh h]
theorem NU(h:op=m8):gr op s J n0 n1 n2 i0 i1 i2 v=91::J++[93]:=by unfold gr;rw[O (by rw[h];decide),O (by rw[h];decide),O (by rw[h];decide),O (by rw[h];decide),O (by rw[h];decide),Zh h]
theorem NX(h:op=fi):gr op s J n0 n1 n2 i0 i1 i2 v=123::J++[125]:=by unfold gr;rw[O (by rw[h];decide),O (by rw[h];decide),O (by rw[h];decide),O (by rw[h];decide),O (by rw[h];decide),O (by rw[h];decide),Zh h]
theorem NO(h:op=oO):gr op s J n0 n1 n2 i0 i1 i2 v=91::gK n0++[93]:=by unfold gr;rw[O (by rw[h];decide),O (by rw[h];decide),O (by rw[h];decide),O (by rw[h];decide),O (by rw[h];decide),O (by rw[h];decide),O (by rw[h];decide),Zh h]
theorem NY(h:op=j7):gr op s J n0 n1 n2 i0 i1 i2 v=91::fC i0 n0++58::fC i1 n1++58::fC i2 n2++[93]:=by unfold gr;rw[O (by rw[h];decide),O (by rw[h];decide),O (by rw[h];decide),O (by rw[h];decide),O (by rw[h];decide),O (by rw[h];decide),O (by rw[h];decide),O (by rw[h];decide),Zh h]
theorem N0(h:op=pA):gr op s J n0 n1 n2 i0 i1 i2 v=[91,42,93]:=by unfold gr;rw[O (by rw[h];decide),O (by rw[h];decide),O (by rw[h];decide),O (by rw[h];decide),O (by rw[h];decide),O (by rw[h];decide),O (by rw[h];decide),O (by rw[h];decide),O (by rw[h];decide),Zh h]
theorem NT(h:op=qj):gr op s J n0 n1 n2 i0 i1 i2 v=[91,93]:=by unfold gr;rw[O (by rw[h];decide),O (by rw[h];decide),O (by rw[h];decide),O (by rw[h];decide),O (by rw[h];decide),O (by rw[h];decide),O (by rw[h];decide),O (by rw[h];decide),O (by rw[h];decide),O (by rw[h];decide),Zh h]
theorem NS(h:op=om):gr op s J n0 n1 n2 i0 i1 i2 v=[91,63,32]++J++[93]:=by unfold gr;rw[O (by rw[h];decide),O (by rw[h];decide),O (by rw[h];decide),O (by rw[h];decide),O (by rw[h];decide),O (by rw[h];decide),O (by rw[h];decide),O (by rw[h];decide),O (by rw[h];decide),O (by rw[h];decide),O (by rw[h];decide),Zh h]
theorem NL(h1:op≠oP)(h2:op≠lA)(h3:op≠eV)(h4:op≠rX)(h5:op≠kr)(h6:op≠eX)(h7:op≠m8)(h8:op≠fi)(h9:op≠oO)(lp:op≠j7)(pS:op≠pA)(fD:op≠qj)(mB:op≠om):gr op s J n0 n1 n2 i0 i1 i2 v=40::op.data.toList++32::J++[41]:=by
 unfold gr;rw[O h1,O (λh=>h.elim h2 h3),O h4,O h5,O h6,O h7,O h8,O h9,O lp,O pS,O fD,O mB]
end
def Al(n0 n1 n2:Ze)(i0 i1 i2:Zo):Zc->Za Zi
 |0=>[91]
 |1=>91::fC i0 n0
 |2=>91::fC i0 n0++58::fC i1 n1
 |_=>91::fC i0 n0++58::fC i1 n1++58::fC i2 n2
theorem aiM(n0 n1 n2:Ze)(i0 i1 i2:Zo)(j:Zc):(Al n0 n1 n2 i0 i1 i2 j).length<=200:=by
 have b0:=Bf i0 n0;have b1:=Bf i1 n1;have b2:=Bf i2 n2;rcases j with _|_|_|j <;> simp only[Al,Zn,Zk,Zr] <;> omega
theorem aiE(op:Zf)(a:Zc)(s:Zf)(names:Za Zf)(l:Za Nd)(n0 n1 n2:Ze)(i0 i1 i2:Zo)(v:ZA (VT 12))(IH:∀y∈l,GB y):GB (.mk op a s names l n0 n1 n2 i0 i1 i2 v):=by
 intro w A p h be ns aH;obtain⟨m,nsl0,lsl0,q0,rfl,Ls,zO,xA,fe,iQ⟩:=h.view;have az:=NE _ h.nvt;have Sy:=aH;rw[px]at Sy;rw[lZ]at be;obtain⟨o1,o2,o3,o4,o5⟩:=be;obtain⟨J,hJ⟩:∃J,J=dm (mj op names) (cq l):=⟨_,rfl⟩
 have hJl:J.length<=1000000000:=by
  have h1:=MH (cq l) (mj op names);have h2:=Te op names;have h3:mY (cq l)<=eW l:=NF l (by have:=h.nvt;unfold AY at this;exact this.2);rw[hJ];omega
 rw[FG,<-hJ];have eY:=aa (FG op a s names l n0 n1 n2 i0 i1 i2 v);have amq:op.size<=1000000000:=by omega
 have nf:XX (∀y∈l,∀(W:Zl) (p:Zg),aJ W A y p->Zp prog 31 #[p] W λe w'=>e=.returned (.string (bs (gZ y)))/\Zj W.heap.size W w'):=λy hy W p hn=>by
  refine IH y hy W A p hn (MT o5 hy) ?_ ?_
  .rw[eN]at ns;have h2:gz l=Zq:=by
    cases mG:gz l with
    |false=>rfl
    |true=>rw[mG]at ns;simp at ns
   rw[yP,Za.any_eq_false]at h2;have:=h2 y hy;cases hb:eN y with
   |false=>rfl
   |true=>exact absurd hb this
  .have:=NK hy;omega
 have HV:XX (op=kr->∃x,v=Zb x):=λe=>by
  rw[eN,e]at ns;cases v with
  |none=>simp at ns
  |some x=>exact⟨x,rfl⟩
 have HN:=aa h;have HJ:=aa hJ;have eu:=aa o3;have AL:=aa o4;have WX:=aa o2;have ay:s.size<=1000:=o1;unfold maxLen at iQ;obtain⟨x0,es⟩:∃x0:Zf,x0=⟨#[]⟩:=⟨_,rfl⟩
 obtain⟨B1,e1⟩:∃B,(op.toList==[110,97,109,101])=B:=⟨_,rfl⟩
 obtain⟨B2,e2⟩:∃B,(op.toList==[64])=B:=⟨_,rfl⟩
 obtain⟨B3,e3⟩:∃B,(op.toList==[42])=B:=⟨_,rfl⟩
 obtain⟨B4,e4⟩:∃B,(op.toList==[116,101,120,116])=B:=⟨_,rfl⟩
 obtain⟨B5,e5⟩:∃B,(op.toList==[99,111,110,115,116])=B:=⟨_,rfl⟩
 obtain⟨B6,e6⟩:∃B,(op.toList==[99,97,108,108])=B:=⟨_,rfl⟩
 obtain⟨B7,e7⟩:∃B,(op.toList==[108,105,115,116])=B:=⟨_,rfl⟩
 obtain⟨B8,e8⟩:∃B,(op.toList==[111,98,106,101,99,116])=B:=⟨_,rfl⟩
 obtain⟨B9,e9⟩:∃B,(op.toList==[97,116])=B:=⟨_,rfl⟩
 obtain⟨B10,e10⟩:∃B,(op.toList==[115,108,105,99,101])=B:=⟨_,rfl⟩
 obtain⟨B11,e11⟩:∃B,(op.toList==[116,104,105,110,103,115])=B:=⟨_,rfl⟩
 obtain⟨B12,e12⟩:∃B,(op.toList==[102,108,97,116])=B:=⟨_,rfl⟩
 obtain⟨B13,e13⟩:∃B,(op.toList==[102,105,108,116,101,114])=B:=⟨_,rfl⟩
 clear h az aH Sy ns o1 o2 o3 o4 o5 hJ zO xA fe Ls IH es;go_enter func31,ntmps31;go_wp2_with fail;go_loopg [3,4] (l.length+1) (λgh sv iv wr=>∃(i:Zc) (acc:Za Zi),i<=l.length/\gh=l.length+1-i/\iv=.int .i64 i/\sv=.string (bs acc)/\Zj w.heap.size w wr/\jw J (mj op names) (cq l) i acc)
 case atStart=>exact⟨0,[],by omega,by omega,rfl,rfl,Zv _ _,by rw[HJ.o];exact jw.start _ _⟩
 case round=>
  obtain⟨i,acc,hi,hg,rfl,rfl,ed,LU⟩:=hrel;have HG:=aa hg;have Gd:=aa LU;have bB:=aa ed;have zk:=LU.len;have NW:=aa (HN.o.below ed);obtain⟨nsl,lsl,q,hb,hv,hr,hk,_⟩:=NW.o.viewm;obtain⟨c0,c1,c2,c3,c4,c11⟩:=MR hb;obtain⟨X,hX⟩:∃X,X=bs acc:=⟨_,rfl⟩
  have zj:X.size<=1000000000:=by rw[hX,eO];omega
  have HX:=aa hX;rw[<-hX];clear hg LU ed hX;by_cases ai:i<l.length
  .have k1:(i:Ze)<(l.length:Ze):=by omega
   obtain⟨y,hy⟩:∃y,l[i]?=Zb y:=⟨l[i]'ai,ZC ai⟩
   have Cf:(cq l)[i]?=Zb (gZ y):=by rw[IY,hy];rfl
   have Dn:=aa (Gd.o.next Cf);have SX:y∈l:=Za.mem_of_getElem? hy;obtain⟨Y,hY⟩:∃Y,Y=bs (gZ y):=⟨_,rfl⟩
   have hYs:Y.size<=1000000000:=by
    have:=Dn.o.len;rw[Zk]at this;rw[hY,eO];omega
   have HY:=aa hY;have JG:XX (∀(W:Zl) (p:Zg),aJ W A y p->Zp prog 31 #[p] W λe w'=>e=.returned (.string Y)/\Zj W.heap.size W w'):=by rw[hY];exact nf.o y SX
   have HYL:=aa hy;obtain⟨g,cap,mk,L5,ck,Id⟩:=hk.get hy;subst L5;clear hY hy SX Cf hk Gd;cases B8
   .have tI:XX ((mj op names).drop i=[]):=by show _=_;rw[mj,O (show op≠fi from qe e8)];simp
    have mp:=aa (JG.o wr _ Id);clear hr Id;rcases ZQ i with h0|h0
    .have yj:XX (X++Y=bs (acc++(if decide (0<i)then[32]else[])++((mj op names).drop i).headD []++gZ y)):=by
      show _=_;rw[tI.o,HX.o,HY.o,ei];simp[h0]
     have k0:¬((0:Ze)<(i:Ze)):=by omega
     clear h0;go_wp2_with fail;refine Zm mp.o ?_;rintro e w2 ⟨rfl,ah⟩;go_wp2;go_roundg (gk-1)
     case measure=>have:=HG.o;omega
     case rel=>exact⟨i+1,_,by omega,by have:=HG.o;omega,by go_num,Zu Zt yj.o,bB.o.trans (ah.mono bB.o.size),Dn.o⟩
    .have yj:XX (X++⟨#[32]⟩++Y=bs (acc++(if decide (0<i)then[32]else[])++((mj op names).drop i).headD []++gZ y)):=by
      show _=_;rw[tI.o,HX.o,HY.o,show(⟨#[32]⟩:Zf)=bs [32]from rfl,ei,ei];simp[h0]
     have k0:(0:Ze)<(i:Ze):=by omega
     clear h0;go_wp2_with fail;refine Zm mp.o ?_;rintro e w2 ⟨rfl,ah⟩;go_wp2;go_roundg (gk-1)
     case measure=>have:=HG.o;omega
     case rel=>exact⟨i+1,_,by omega,by have:=HG.o;omega,by go_num,Zu Zt yj.o,bB.o.trans (ah.mono bB.o.size),Dn.o⟩
   .have fF:op=fi:=qg e8;have eB:i<names.length:=by rw[AL.o fF];exact ai
    obtain⟨gn,capn,hns,cn⟩:=af0 hr eB;obtain⟨ky,zy⟩:∃ky,ky=names[i]'eB:=⟨_,rfl⟩
    rw[<-zy]at cn;subst hns;have amd:ky.size<=1000:=by rw[zy];exact WX.o _ (Za.getElem_mem eB)
    obtain⟨Q,hQ⟩:∃Q,Q=bs (dt ky.data.toList):=⟨_,rfl⟩
    have Q4:Q.size<=10000:=by
     have:=xO ky.data.toList;have h2:ky.data.toList.length=ky.size:=by simp
     rw[hQ,eO];omega
    have HQ:=aa hQ;have dN:XX (Zp prog 63 #[.string ky] wr λe w'=>e=.returned (.string Q)/\Zj wr.heap.size wr w'):=by rw[hQ];exact CF ky wr (by omega)
    have tI:XX (((mj op names).drop i).headD []=dt ky.data.toList++[32]):=by
     show _=_;rw[mj,Zh fF,<-Za.map_drop,ZN eB,zy];rfl
    have n1i:(i:Ze)<(names.length:Ze):=by omega
    have OT:=aa Id;clear fF eB hr zy hQ Id;rcases ZQ i with h0|h0
    .have yj:XX (X++Q++⟨#[32]⟩++Y=bs (acc++(if decide (0<i)then[32]else[])++((mj op names).drop i).headD []++gZ y)):=by
      show _=_;rw[tI.o,HX.o,HY.o,HQ.o,show(⟨#[32]⟩:Zf)=bs [32]from rfl,ei,ei,ei];simp[h0]
     have k0:¬((0:Ze)<(i:Ze)):=by omega
     clear h0;go_wp2_with fail;refine Zm dN.o ?_;rintro e w2 ⟨rfl,ah⟩;have adT:w2.cell? ⟨g,i,Zd⟩=Zb (.pointer (Zb ⟨mk,0,Zd⟩)):=gi ck ah;have adS:w2.cell? ⟨m,4,Zd⟩=_:=gi c4 ah;have mp:=aa (JG.o w2 _ (OT.o.below ah));go_wp2_with fail;refine Zm mp.o ?_;rintro e w3 ⟨rfl,ap⟩;go_wp2;go_roundg (gk-1)
     case measure=>have:=HG.o;omega
     case rel=>exact⟨i+1,_,by omega,by have:=HG.o;omega,by go_num,Zu Zt yj.o,bB.o.trans ((ah.trans (ap.mono ah.size)).mono bB.o.size),Dn.o⟩
    .have yj:XX (X++⟨#[32]⟩++Q++⟨#[32]⟩++Y=bs (acc++(if decide (0<i)then[32]else[])++((mj op names).drop i).headD []++gZ y)):=by
      show _=_;rw[tI.o,HX.o,HY.o,HQ.o,show(⟨#[32]⟩:Zf)=bs [32]from rfl,ei,ei,ei,ei];simp[h0]
     have k0:(0:Ze)<(i:Ze):=by omega
     clear h0;go_wp2_with fail;refine Zm dN.o ?_;rintro e w2 ⟨rfl,ah⟩;have adT:w2.cell? ⟨g,i,Zd⟩=Zb (.pointer (Zb ⟨mk,0,Zd⟩)):=gi ck ah;have adS:w2.cell? ⟨m,4,Zd⟩=_:=gi c4 ah;have mp:=aa (JG.o w2 _ (OT.o.below ah));go_wp2_with fail;refine Zm mp.o ?_;rintro e w3 ⟨rfl,ap⟩;go_wp2;go_roundg (gk-1)
     case measure=>have:=HG.o;omega
     case rel=>exact⟨i+1,_,by omega,by have:=HG.o;omega,by go_num,Zu Zt yj.o,bB.o.trans ((ah.trans (ap.mono ah.size)).mono bB.o.size),Dn.o⟩
  .have k1:¬((i:Ze)<(l.length:Ze)):=by omega
   have yH:XX (X=bs J):=by show _=_;rw[HX.o,Gd.o.fin (by rw[IZ];omega)]
   obtain⟨o,cap,L5⟩:=hk.shape;subst L5;obtain⟨z0,z1,z2,y0,y1,y2⟩:=Tv hb;have HOV:=aa hv;have HB:=aa hb;obtain⟨Q,hQ⟩:∃Q,Q=bs (dt s.data.toList):=⟨_,rfl⟩
   have Q4:Q.size<=10000:=by
    have:=xO s.data.toList;have h2:s.data.toList.length=s.size:=by simp
    rw[hQ,eO];omega
   have HQ:=aa hQ;have dN:XX (Zp prog 63 #[.string s] wr λe w'=>e=.returned (.string Q)/\Zj wr.heap.size wr w'):=by rw[hQ];exact CF s wr (by omega)
   clear hk hr hv hb Gd HG hQ;cases B1
   rotate_left
   .have gT:XX (op=oP):=qg e1;clear z0 z1 z2 y0 y1 y2 e2 e3 e4 e5 e6 e7 e8 e9 e10 e11 e12 e13;go_wp2_with fail;refine Zm dN.o ?_;rintro e w2 ⟨rfl,ah⟩;go_wp2;go_ret;exact⟨by rw[NV gT.o,HQ.o];rfl,bB.o.trans (ah.mono bB.o.size)⟩
   .cases B2
    rotate_left
    .have gT:XX (op=lA):=qg e2;clear z0 z1 z2 y0 y1 y2 e3 e4 e5 e6 e7 e8 e9 e10 e11 e12 e13;go_wp2;go_ret;exact⟨by rw[NM gT.o,DZ];rfl,bB.o⟩
    .cases B3
     rotate_left
     .have gT:XX (op=eV):=qg e3;clear z0 z1 z2 y0 y1 y2 e4 e5 e6 e7 e8 e9 e10 e11 e12 e13;go_wp2;go_ret;exact⟨by rw[NN gT.o,DZ];rfl,bB.o⟩
     .cases B4
      rotate_left
      .have gT:XX (op=rX):=qg e4;clear z0 z1 z2 y0 y1 y2 e5 e6 e7 e8 e9 e10 e11 e12 e13;go_wp2_with fail;refine Zm dN.o ?_;rintro e w2 ⟨rfl,ah⟩;go_wp2;go_ret;exact⟨by rw[NZ gT.o,HQ.o];rfl,bB.o.trans (ah.mono bB.o.size)⟩
      .cases B5
       rotate_left
       .have gT:XX (op=kr):=qg e5;clear z0 z1 z2 y0 y1 y2 e6 e7 e8 e9 e10 e11 e12 e13;obtain⟨vv,hvv⟩:=HV.o gT.o;subst hvv;obtain⟨xD,xE,ti⟩:=HOV.o;obtain⟨Vt,vq⟩:∃Vt,Vt=bs (aF 12 vv):=⟨_,rfl⟩
        have Hm:Vt.size<=900000:=by rw[vq,eO];exact xE
        have uZ:=aa vq;obtain⟨mv,L8⟩:=br.ptr 12 ti;have nM:XX (Zp prog 24 #[.pointer q] wr λe w'=>e=.returned (.string Vt)/\Zj wr.heap.size wr w'):=by
         rw[vq];exact aj1 12 vv _ wr (br.keep 12 ti (λi o hA ho=>⟨rfl,al ho⟩)) xD xE
        injection L8 with L8;subst L8;clear vq xD xE ti;go_wp2_with fail;refine Zm nM.o ?_;rintro e w2 ⟨rfl,ah⟩;go_wp2;go_ret;refine⟨?_,bB.o.trans (ah.mono bB.o.size)⟩;rw[NR gT.o,uZ.o,show(⟨#[96]⟩:Zf)=bs [96]from rfl,ei,ei];rfl
       .cases B6
        rotate_left
        .have gT:XX (op=eX):=qg e6;clear z0 z1 z2 y0 y1 y2 e7 e8 e9 e10 e11 e12 e13;by_cases hj:J=[]
         .have ex:(X.toList==[])=Zw:=uA (l:=[]) (by rw[yH.o,hj];rfl);have JO:=aa hj;clear hj;go_wp2;go_ret;refine⟨?_,bB.o⟩;rw[I6 gT.o,Zh JO.o];have e:(⟨#[40]⟩++s++⟨#[41]⟩:Zf)=bs [40]++bs s.data.toList++bs [41]:=by rw[DZ];rfl
          first|rw[e,ei,ei];rfl|(show Ending.returned (Zt (⟨#[40]⟩++s++⟨#[41]⟩))=_;rw[e,ei,ei];rfl)
         .have ex:(X.toList==[])=Zq:=fZ (l:=[]) (by
           intro e;apply hj;have e2:bs J=bs []:=by rw[<-yH.o,e];rfl
           have:=Zu (λb:Zf=>b.data.toList) e2;simpa[bs]using this)
          have JO:=aa hj;clear hj;go_wp2;go_ret;refine⟨?_,bB.o⟩;rw[I6 gT.o,O JO.o];have e:(⟨#[40]⟩++s++⟨#[32]⟩++X++⟨#[41]⟩:Zf)=bs [40]++bs s.data.toList++bs [32]++bs J++bs [41]:=by rw[DZ,yH.o];rfl
          rw[e,ei,ei,ei,ei];simp
        .cases B7
         rotate_left
         .have gT:XX (op=m8):=qg e7;clear z0 z1 z2 y0 y1 y2 e8 e9 e10 e11 e12 e13;go_wp2;go_ret;refine⟨?_,bB.o⟩;rw[NU gT.o,yH.o,show(⟨#[91]⟩:Zf)=bs [91]from rfl,show(⟨#[93]⟩:Zf)=bs [93]from rfl,ei,ei];rfl
         .cases B8
          rotate_left
          .have gT:XX (op=fi):=qg e8;clear z0 z1 z2 y0 y1 y2 e9 e10 e11 e12 e13;go_wp2;go_ret;refine⟨?_,bB.o⟩;rw[NX gT.o,yH.o,show(⟨#[123]⟩:Zf)=bs [123]from rfl,show(⟨#[125]⟩:Zf)=bs [125]from rfl,ei,ei];rfl
          .cases B9
           rotate_left
           .have gT:XX (op=oO):=qg e9;clear y0 y1 y2 e10 e11 e12 e13;have hn:=eu.o.1;obtain⟨Vt,vq⟩:∃Vt,Vt=bs (gK n0):=⟨_,rfl⟩
            have Hm:Vt.size<=100:=by have:=Jm n0;rw[vq,eO];omega
            have uZ:=aa vq;have nM:XX (Zp prog 64 #[.int .i64 n0] wr λe w'=>e=.returned (.string Vt)/\Zj wr.heap.size wr w'):=by rw[vq];exact Vv n0 wr (by omega) (by omega)
            clear vq hn;go_wp2_with fail;refine Zm nM.o ?_;rintro e w2 ⟨rfl,ah⟩;go_wp2;go_ret;refine⟨?_,bB.o.trans (ah.mono bB.o.size)⟩;rw[NO gT.o,uZ.o,show(⟨#[91]⟩:Zf)=bs [91]from rfl,show(⟨#[93]⟩:Zf)=bs [93]from rfl,ei,ei];rfl
           .cases B10
            rotate_left
            .have gT:XX (op=j7):=qg e10;clear e11 e12 e13;go_wp2_with fail;go_loopg [5,6] 4 (λgh sv iv wq=>∃j:Zc,j<=3/\gh=4-j/\iv=.int .i64 j/\sv=.string (bs (Al n0 n1 n2 i0 i1 i2 j))/\Zj w.heap.size w wq)
             case atStart=>exact⟨0,by omega,by omega,rfl,rfl,bB.o⟩
             case round=>
              obtain⟨j,hj,RP,rfl,rfl,Ly⟩:=hrel;clear z0 z1 z2 y0 y1 y2 c0 c1 c2 c3 c4 c11;have NQ:=aa (HN.o.below Ly);obtain⟨nslq,lslq,qq,sL,_,_,_,_⟩:=NQ.o.viewm;obtain⟨z0,z1,z2,y0,y1,y2⟩:=Tv sL;obtain⟨P,hP⟩:∃P,P=bs (Al n0 n1 n2 i0 i1 i2 j):=⟨_,rfl⟩
              have hPs:P.size<=200:=by have:=aiM n0 n1 n2 i0 i1 i2 j;rw[hP,eO];omega
              have HP:=aa hP;have tE:=aa Ly;have AG:=aa RP;rw[<-hP];clear hP sL Ly RP;have wS:XX (∀n:Ze,-10000000<=n/\n<=10000000->∃Vt:Zf,Vt.size<=100/\XX (Vt=bs (gK n))/\XX (Zp prog 64 #[.int .i64 n] wr λe w'=>e=.returned (.string Vt)/\Zj wr.heap.size wr w')):=λn hn=>
               ⟨bs (gK n),by have:=Jm n;rw[eO];omega,rfl,Vv n wr (by omega) (by omega)⟩
              rcases(show j=0\/j=1\/j=2\/j=3 from by omega)with rfl|rfl|rfl|rfl
              .cases i0
               .go_wp2;go_roundg 3
                case measure=>have:=AG.o;omega
                case rel=>exact⟨1,by omega,by omega,rfl,Zu Zt (by rw[HP.o];rfl),tE.o⟩
               .obtain⟨Vt,Hm,uZ,nM⟩:=wS.o n0 eu.o.1;go_wp2_with fail;refine Zm nM.o ?_;rintro e w2 ⟨rfl,ah⟩;go_wp2;go_roundg 3
                case measure=>have:=AG.o;omega
                case rel=>exact⟨1,by omega,by omega,rfl,Zu Zt (by rw[HP.o,uZ.o,ei];simp[Al,fC]),tE.o.trans (ah.mono tE.o.size)⟩
              .cases i1
               .go_wp2;go_roundg 2
                case measure=>have:=AG.o;omega
                case rel=>exact⟨2,by omega,by omega,rfl,Zu Zt (by rw[HP.o,show(⟨#[58]⟩:Zf)=bs [58]from rfl,ei];rfl),tE.o⟩
               .obtain⟨Vt,Hm,uZ,nM⟩:=wS.o n1 eu.o.2.1;go_wp2_with fail;refine Zm nM.o ?_;rintro e w2 ⟨rfl,ah⟩;go_wp2;go_roundg 2
                case measure=>have:=AG.o;omega
                case rel=>exact⟨2,by omega,by omega,rfl,Zu Zt (by rw[HP.o,uZ.o,show(⟨#[58]⟩:Zf)=bs [58]from rfl,ei,ei];simp[Al,fC]),tE.o.trans (ah.mono tE.o.size)⟩
              .cases i2
               .go_wp2;go_roundg 1
                case measure=>have:=AG.o;omega
                case rel=>exact⟨3,by omega,by omega,rfl,Zu Zt (by rw[HP.o,show(⟨#[58]⟩:Zf)=bs [58]from rfl,ei];rfl),tE.o⟩
               .obtain⟨Vt,Hm,uZ,nM⟩:=wS.o n2 eu.o.2.2;go_wp2_with fail;refine Zm nM.o ?_;rintro e w2 ⟨rfl,ah⟩;go_wp2;go_roundg 1
                case measure=>have:=AG.o;omega
                case rel=>exact⟨3,by omega,by omega,rfl,Zu Zt (by rw[HP.o,uZ.o,show(⟨#[58]⟩:Zf)=bs [58]from rfl,ei,ei];simp[Al,fC]),tE.o.trans (ah.mono tE.o.size)⟩
              .go_wp2;go_ret;refine⟨?_,tE.o⟩;rw[NY gT.o,HP.o,show(⟨#[93]⟩:Zf)=bs [93]from rfl,ei];rfl
            .cases B11
             rotate_left
             .have gT:XX (op=pA):=qg e11;clear z0 z1 z2 y0 y1 y2 e12 e13;go_wp2;go_ret;exact⟨by rw[N0 gT.o];rfl,bB.o⟩
             .cases B12
              rotate_left
              .have gT:XX (op=qj):=qg e12;clear z0 z1 z2 y0 y1 y2 e13;go_wp2;go_ret;exact⟨by rw[NT gT.o];rfl,bB.o⟩
              .cases B13
               rotate_left
               .have gT:XX (op=om):=qg e13;clear z0 z1 z2 y0 y1 y2;go_wp2;go_ret;refine⟨?_,bB.o⟩;rw[NS gT.o,yH.o,show(⟨#[91,63,32]⟩:Zf)=bs [91,63,32]from rfl,show(⟨#[93]⟩:Zf)=bs [93]from rfl,ei,ei];rfl
               .have Wz:XX (gr op s J n0 n1 n2 i0 i1 i2 v=40::op.data.toList++32::J++[41]):=NL (qe e1) (qe e2) (qe e3) (qe e4) (qe e5) (qe e6) (qe e7) (qe e8) (qe e9) (qe e10) (qe e11) (qe e12) (qe e13);clear z0 z1 z2 y0 y1 y2;go_wp2;go_ret;refine⟨?_,bB.o⟩;rw[Wz.o];have e:(⟨#[40]⟩++op++⟨#[32]⟩++X++⟨#[41]⟩:Zf)=bs [40]++bs op.data.toList++bs [32]++bs J++bs [41]:=by rw[DZ,yH.o];rfl
                rw[e,ei,ei,ei,ei];simp
mutual
theorem UK:∀(x:Nd),GB x
 |.mk op a s names l n0 n1 n2 i0 i1 i2 v=>aiE op a s names l n0 n1 n2 i0 i1 i2 v (UL l)
theorem UL:∀(l:Za Nd),∀y∈l,GB y
 |[],y,h=>by simp at h
 |x::l,y,h=>by
  rcases ZP.1 h with h|h
  .rw[h];exact UK x
  .exact UL l y h
end
theorem acT(x0 x1 x2 x3 x4 x5:Zg)(W:Zl):(ZH 63 (.agg #[x0,x1,x2,x3,x4,x5]) 1).run prog W=.ok x1 W:=by kernel_rfl
theorem KX(x0 x1 x2 x3 x4 x5:Zg)(W:Zl):(ZH 63 (.agg #[x0,x1,x2,x3,x4,x5]) 0).run prog W=.ok x0 W:=by kernel_rfl
theorem acU(x0 x1 x2 x3 x4 x5:Zg)(W:Zl):(ZH 63 (.agg #[x0,x1,x2,x3,x4,x5]) 2).run prog W=.ok x2 W:=by kernel_rfl
def CU(tv:Zg)(i:Zc)(d:Ze)(lg:Zo)(cv:Zg):Obj:=.cells #[tv,.int .i64 i,.int .i64 d,.bool lg,cv] 59
structure ZT(w:Zl)(V:Zc->Prop)(T:Za (aj×Zc))(g:Zc)(S:Addr):Prop where
 cells:∀(k:Zc) (x:aj×Zc),T[k]?=Zb x->∃v,(eI v/\PV w V x.1 v)/\∀j u,(kp x.1 x.2 v)[j]?=Zb u->w.cell? ⟨g,k*6+j,Zd⟩=Zb u
 syn:w.heap[2]?=Zb (.cells #[.iface 279 (.pointer (Zb S))] 29 (0,0))
theorem ZT.keep{V:Zc->Prop}{T:Za (aj×Zc)}(h:ZT w V T g S)(hk:∀k,k<b->k<w.heap.size->w'.heap[k]?=w.heap[k]?)(hg:g<b)(hv:∀m,V m->m<b)(hs:2<b):ZT w' V T g S:=by
 refine⟨λk x hx=>?_,(hk _ hs (al h.syn)).trans h.syn⟩;obtain⟨v,h1,h2⟩:=h.cells k x hx;refine⟨v,⟨h1.1,h1.2.keep (λm hm ai=>⟨hk m (hv m hm) ai,hm⟩)⟩,λj u hj=>?_⟩;have hc:=h2 j u hj;exact lm hc (hk g hg (qA hc))
structure ZS(w:Zl)(b:Zc)(V:Zc->Prop)(T:Za (aj×Zc))(g tc:Zc)(S:Addr)(i:Zc)(d:Ze)(lg:Zo)(cv:Zg)(cs:Za Zg):Prop where
 blk:w.heap[b]?=Zb (CU (.slice (Zb ⟨g,0,Zd⟩) T.length tc) i d lg cv)
 toks:ZT w V T g S
 row:ao w 65 cv cs
 sep:∀k,cv.ownBlock=Zb k->b<k
 gb:g<b
 vb:∀m,V m->m<b
 sb:2<b
 tl:T.length<=1000
 last:∀(k:Zc) (x:aj×Zc),T[k]?=Zb x->k+1=T.length->x.1.kind=101\/x.1.kind=120
 cl:cs.length<=i
theorem jF{tv:Zg}{d:Ze}{lg:Zo}{cv:Zg}(h:w.heap[b]?=Zb (CU tv i d lg cv)):
 w.cell? ⟨b,0,Zd⟩=Zb tv/\w.cell? ⟨b,1,Zd⟩=Zb (.int .i64 i)/\w.cell? ⟨b,2,Zd⟩=Zb (.int .i64 d)/\w.cell? ⟨b,3,Zd⟩=Zb (.bool lg)/\w.cell? ⟨b,4,Zd⟩=Zb cv/\∀o,w.frozen? ⟨b,o,Zd⟩=Zq:=by
 unfold CU at h;refine⟨?_,?_,?_,?_,?_,λo=>?_⟩ <;> simp[Zx,Zl.frozen?,h]
section
variable {w w':Zl} {b:Zc} {V:Zc->Prop} {T:Za (aj×Zc)} {g tc:Zc} {S:Addr} {i:Zc} {d:Ze} {lg:Zo} {cv:Zg} {cs:Za Zg}
theorem ZS.below(h:ZS w b V T g tc S i d lg cv cs)(hb:Zj w.heap.size w w'):ZS w' b V T g tc S i d lg cv cs:=
 ⟨(hb.block _ (al h.blk)).trans h.blk,h.toks.keep (b:=b) (λk _ ai=>hb.block k ai) h.gb h.vb h.sb,h.row.same (λk hk=>hb.block k (h.row.lt hk)),h.sep,h.gb,h.vb,h.sb,h.tl,h.last,h.cl⟩
theorem ZS.set(h:ZS w b V T g tc S i d lg cv cs){j:Zc}{u:Zg}{d':Ze}{lg':Zo}(hb:(w.setCell ⟨b,j,Zd⟩ u).heap[b]?=Zb (CU (.slice (Zb ⟨g,0,Zd⟩) T.length tc) i' d' lg' cv))(gW:i<=i':=by omega):ZS (w.setCell ⟨b,j,Zd⟩ u) b V T g tc S i' d' lg' cv cs:=
 ⟨hb,h.toks.keep (b:=b) (λk hk ai=>ZG _ _ _ _ (by simp;omega)) h.gb h.vb h.sb,h.row.same (λk hk=>ZG _ _ _ _ (by have:=h.sep k hk;simp;omega)),h.sep,h.gb,h.vb,h.sb,h.tl,h.last,ZD h.cl gW⟩
theorem ZS.at(h:ZS w b V T g tc S i d lg cv cs){x:Ze}(e:x=(i':Ze))(gW:i<=i':=by omega):ZS (w.setCell ⟨b,1,Zd⟩ (.int .i64 x)) b V T g tc S i' d lg cv cs:=by subst e;exact h.set (cY h.blk _) gW
theorem ZS.deep(h:ZS w b V T g tc S i d lg cv cs)(d':Ze):ZS (w.setCell ⟨b,2,Zd⟩ (.int .i64 d')) b V T g tc S i d' lg cv cs:=h.set (cY h.blk _)
theorem ZS.large(h:ZS w b V T g tc S i d lg cv cs)(lg':Zo):ZS (w.setCell ⟨b,3,Zd⟩ (.bool lg')) b V T g tc S i d lg' cv cs:=h.set (cY h.blk _)
theorem ZS.more(h:ZS w b V T g tc S i d lg cv cs)(hi:i<T.length)(hk:(bp T i).kind≠101)(ek:(bp T i).kind≠120):i+1<T.length:=by
 rcases ZU (i+1) T.length with h1|h1
 .exact h1
 .have hx:T[i]?=Zb (T[i]'hi):=ZC hi;have e:bp T i=(T[i]'hi).1:=by rw[bp,hx]
  rw[e]at hk ek;rcases h.last i _ hx (by omega)with q|q
  .exact absurd q hk
  .exact absurd q ek
theorem ND{k:Zc}(h:ag T k s=Zw):(bp T k).kind=115:=by
 unfold ag at h;unfold bp;cases hx:T[k]? with
 |none=>rw[hx]at h;cases h
 |some x=>rw[hx]at h;simp at h;exact h.1
theorem ZS.sgn_more(h:ZS w b V T g tc S i d lg cv cs)(hi:i<T.length)(hs:ag T i s=Zw):i+1<T.length:=
 h.more hi (by rw[ND hs];decide) (by rw[ND hs];decide)
theorem Wb(h:ZS w b V T g tc S i d lg cv cs)(hx:T[i]?=Zb x)(p8:eI v)(hc:∀j u,(kp x.1 x.2 v)[j]?=Zb u->w.cell? ⟨g,i*6+j,Zd⟩=Zb u):
 Zp prog 27 #[.pointer (Zb ⟨b,0,Zd⟩)] w λe w'=>e=.returned (aI (aS x.1.kind) x.2 x.1.txt x.1.num v (eL x.1))/\Zj w.heap.size w w':=by
 obtain⟨z0,z1,z2,z3,z4,zf⟩:=jF h.blk;have BO:i<T.length:=(ZO.1 hx).1;have iE:=h.tl;have y0:w.cell? ⟨g,i*6,Zd⟩=_:=hc 0 _ rfl;have y1:=hc 1 _ rfl;have y2:=hc 2 _ rfl;have y3:=hc 3 _ rfl;have y4:=hc 4 _ rfl;have y5:=hc 5 _ rfl;have k1:(i:Ze)<(T.length:Ze):=by omega
 obtain⟨W,hW⟩:∃W,W=w.alloc (.cells #[.int .i64 0,.int .i64 0,.string ⟨#[]⟩,.int .i64 0,.nilIface,.bool Zq] 63):=⟨_,rfl⟩
 have hB:Zj w.heap.size w W:=by rw[hW];exact(Zv _ w).alloc (Zz _) _
 have z0:=gi z0 hB;have z1:=gi z1 hB;have y0:=gi y0 hB;have y1:=gi y1 hB;have y2:=gi y2 hB;have y3:=gi y3 hB;have y4:=gi y4 hB;have y5:=gi y5 hB;have HB:=aa hB;subst hW;clear h hx hc z2 z3 z4 hB;rcases p8 with rfl|⟨tv,xv,rfl⟩
 .go_enter func27,ntmps27;go_wp2
  go_region
  all_goals
   go_wp2;have hl:=it w.heap.size _ _ _ _ _ _ (w.alloc (.cells #[.int .i64 (aS x.1.kind),.int .i64 x.2,.string x.1.txt,.int .i64 x.1.num,.nilIface,.bool (eL x.1)] 63)).drew (aE (W:=w) (o:=.cells #[.int .i64 (aS x.1.kind),.int .i64 x.2,.string x.1.txt,.int .i64 x.1.num,.nilIface,.bool (eL x.1)] 63) rfl);refine bodyPost_ret (v:=aI (aS x.1.kind) x.2 x.1.txt x.1.num .nilIface (eL x.1)) ?_ rfl ?_
   .simp[results,results27,aI,asAddr,hl]
   .exact⟨rfl,((Zv _ w).alloc (Zz _) _).drew⟩
 .go_enter func27,ntmps27;go_wp2
  go_region
  all_goals
   go_wp2;have hl:=it w.heap.size _ _ _ _ _ _ (w.alloc (.cells #[.int .i64 (aS x.1.kind),.int .i64 x.2,.string x.1.txt,.int .i64 x.1.num,(.iface tv xv),.bool (eL x.1)] 63)).drew (aE (W:=w) (o:=.cells #[.int .i64 (aS x.1.kind),.int .i64 x.2,.string x.1.txt,.int .i64 x.1.num,(.iface tv xv),.bool (eL x.1)] 63) rfl);refine bodyPost_ret (v:=aI (aS x.1.kind) x.2 x.1.txt x.1.num (.iface tv xv) (eL x.1)) ?_ rfl ?_
   .simp[results,results27,aI,asAddr,hl]
   .exact⟨rfl,((Zv _ w).alloc (Zz _) _).drew⟩
theorem uK(h:ZS w b V T g tc S i d lg cv cs)(hx:T[i]?=Zb x):
 Zp prog 27 #[.pointer (Zb ⟨b,0,Zd⟩)] w λe w'=>∃v,e=.returned (aI (aS x.1.kind) x.2 x.1.txt x.1.num v (eL x.1))/\Zj w.heap.size w w'/\eI v/\XX (PV w' V x.1 v):=by
 obtain⟨v,hv,hc⟩:=h.toks.cells i x hx;refine(Wb h hx hv.1 hc).mono ?_;rintro e w' ⟨rfl,hb⟩;exact⟨v,rfl,hb,hv.1,hv.2.keep (λm hm ai=>⟨hb.block m ai,hm⟩)⟩
structure ZF(N b:Zc)(cv cv':Zg)(w w':Zl):Prop where
 os:w'.os=w.os
 tape:w'.tape=w.tape
 output:w'.output=w.output
 size:w.heap.size<=w'.heap.size
 block:∀k,k<N->k≠b->cv.ownBlock≠Zb k->w'.heap[k]?=w.heap[k]?
 own:∀k,cv'.ownBlock=Zb k->cv.ownBlock=Zb k\/N<=k
theorem ZF.refl(N b:Zc)(cv:Zg)(w:Zl):ZF N b cv cv w w:=⟨rfl,rfl,rfl,Zz _,λ_ _ _ _=>rfl,λ_ h=>.inl h⟩
theorem ZF.trans{cv cv1 cv2:Zg}{w1 w2:Zl}(h:ZF N b cv cv1 w w1)(k:ZF N b cv1 cv2 w1 w2):ZF N b cv cv2 w w2:=
 ⟨k.os.trans h.os,k.tape.trans h.tape,k.output.trans h.output,ZD h.size k.size,λm h1 h2 h3=>(k.block m h1 h2 (λe=>by rcases h.own m e with e|e;exact h3 e;omega)).trans (h.block m h1 h2 h3),λm e=>by
  rcases k.own m e with e|e
  .exact h.own m e
  .exact .inr e⟩
theorem ZF.mono{N':Zc}{cv:Zg}(h:ZF N b cv cv' w w')(hN:N'<=N):ZF N' b cv cv' w w':=
 ⟨h.os,h.tape,h.output,h.size,λm h1 h2 h3=>h.block m (by omega) h2 h3,λm e=>(h.own m e).imp_right (λx=>by omega)⟩
theorem ZF.of_below{cv:Zg}(h:Zj w.heap.size w w')(hN:N<=w.heap.size):ZF N b cv cv w w':=
 ⟨h.os,h.tape,h.output,h.size,λm h1 _ _=>h.block m (by omega),λ_ e=>.inl e⟩
theorem ZF.setb{cv:Zg}(h:ZF N b cv cv' w w')(j:Zc)(u:Zg):ZF N b cv cv' w (w'.setCell ⟨b,j,Zd⟩ u):=
 ⟨h.os,h.tape,h.output,by simpa[Zl.setCell]using h.size,λm h1 h2 h3=>(ZG _ _ _ _ (by simpa using h2)).trans (h.block m h1 h2 h3),h.own⟩
theorem ZF.of_but{cv:Zg}(h:ab b w w')(hN:N<=w.heap.size):ZF N b cv cv w w':=
 ⟨h.os,h.tape,h.output,h.size,λm h1 h2 _=>h.block m (by omega) (by simpa using h2),λ_ e=>.inl e⟩
theorem Jb(k:Ze):aS k=2↔k=115:=by
 unfold aS;constructor
 .intro h
  repeat' split at h
  all_goals omega
 .intro h;rw[h];decide
theorem pD(h:ZS w b V T g tc S i d lg cv cs)(hi:i<T.length)(s:Zf):
 Zp prog 138 #[.pointer (Zb ⟨b,0,Zd⟩),.string s] w λe w'=>e=.returned (.bool (ag T i s))/\Zj w.heap.size w w':=by
 obtain⟨x,hx⟩:∃x,T[i]?=Zb x:=⟨_,ZC hi⟩
 have HN:=aa (uK h hx);have jD:ag T i s=(decide (aS x.1.kind=2)&&decide (x.1.txt=s)):=by
  rw[ag,hx];simp only;rw[Zo.eq_iff_iff];simp[Jb]
 rw[jD];clear jD h hx hi;obtain⟨kd,fg⟩:∃kd,kd=aS x.1.kind:=⟨_,rfl⟩
 rw[<-fg]at HN⊢;clear fg;by_cases h2:kd=2
 .by_cases hs:x.1.txt=s
  .have e1:=xU hs;rw[ZJ h2,ZJ hs];subst h2;clear hs;go_enter func138,ntmps138;go_wp2_with fail;refine Zm HN.o ?_;rintro e w2 ⟨v,rfl,ah,hv,_⟩;rw[aI];rcases hv with rfl|⟨tv,xv,rfl⟩
   all_goals
    go_wp2;go_ret;exact⟨rfl,ah.trans ((Zv _ _).alloc ah.size _)⟩
  .have e1:=ww hs;rw[ZJ h2,ZV hs];subst h2;clear hs;go_enter func138,ntmps138;go_wp2_with fail;refine Zm HN.o ?_;rintro e w2 ⟨v,rfl,ah,hv,_⟩;rw[aI];rcases hv with rfl|⟨tv,xv,rfl⟩
   all_goals
    go_wp2;go_ret;exact⟨rfl,ah.trans ((Zv _ _).alloc ah.size _)⟩
 .have e0:(kd==2)=Zq:=ZB.2 h2;rw[ZV h2];clear h2;go_enter func138,ntmps138;go_wp2_with fail;refine Zm HN.o ?_;rintro e w2 ⟨v,rfl,ah,hv,_⟩;rw[aI];rcases hv with rfl|⟨tv,xv,rfl⟩
  all_goals
   go_wp2;go_ret;exact⟨rfl,ah.trans ((Zv _ _).alloc ah.size _)⟩
theorem qk(h:ZS w b V T g tc S i d lg cv cs)(hi:i<T.length)(s:Zf):
 Zp prog 90 #[.pointer (Zb ⟨b,0,Zd⟩),.string s] w λe w'=>e=.returned (.bool (ag T i s))/\ab b w w'/\ZS w' b V T g tc S (if ag T i s then i+1 else i) d lg cv cs:=by
 have HN:=aa (pD h hi s);have HS:=aa h;have iE:=h.tl;obtain⟨B,hB⟩:∃B,B=ag T i s:=⟨_,rfl⟩
 rw[<-hB]at HN⊢;clear h hB;cases B
 .go_enter func90,ntmps90;go_wp2_with fail;refine Zm HN.o ?_;rintro e w2 ⟨rfl,ah⟩;go_wp2;go_ret;exact⟨rfl,(ab.refl b w).of_below ah,HS.o.below ah⟩
 .go_enter func90,ntmps90;go_wp2_with fail;refine Zm HN.o ?_;rintro e w2 ⟨rfl,ah⟩;have fj:=aa (HS.o.below ah);obtain⟨z0,z1,z2,z3,z4,zf⟩:=jF fj.o.blk;clear z0 z2 z3 z4;go_wp2;go_ret;exact⟨rfl,((ab.refl b w).of_below ah).setCell _ _,fj.o.at (by go_num)⟩
theorem uL(h:ZS w b V T g tc S i d lg cv cs)(hi:i<T.length):
 Zp prog 28 #[.pointer (Zb ⟨b,0,Zd⟩)] w λe w'=>e=.returned (aG S (bE T i))/\Zj w.heap.size w w':=by
 obtain⟨x,hx⟩:∃x,T[i]?=Zb x:=⟨_,ZC hi⟩
 have cQ:bE T i=x.2:=by rw[bE,hx]
 obtain⟨v,hv,hc⟩:=h.toks.cells i x hx;have p8:=hv.1;have HN:XX (Zp prog 27 #[.pointer (Zb ⟨b,0,Zd⟩)] w.drew λe w'=>e=.returned (aI (aS x.1.kind) x.2 x.1.txt x.1.num v (eL x.1))/\Zj w.heap.size w w'):=(Wb (h.below (Zv _ w).drew) hx p8 hc).mono (λe w' ⟨h1,h2⟩=>⟨h1,((Zv _ w).drew).trans h2⟩);have c0:w.cell? ⟨2,0,Zd⟩=Zb (.iface 279 (.pointer (Zb S))):=by simp[Zx,h.toks.syn]
 have HC:=aa c0;rw[cQ];clear h hx hi cQ hv hc;rw[aI]at HN;have hfl:=acT;rcases p8 with rfl|⟨tv,xv,rfl⟩
 all_goals
  go_enter func28,ntmps28;go_wp2_with fail
  go_region_with (go_at_call 27;(refine Zm HN.o ?_;rintro e wz ⟨rfl,oD⟩;have cz:=gi HC.o oD))
  all_goals
   go_wp2;go_ret;exact⟨rfl,oD⟩
end
end Go.Proofs.YtdlgkgfeoiohiaaGreatDoor
