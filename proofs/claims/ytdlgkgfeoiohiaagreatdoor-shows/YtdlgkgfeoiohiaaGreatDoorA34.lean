/- Part 34. -/
import Derived.Test.YtdlgkgfeoiohiaaGreatDoorA33
open Bool renaming false -> Zb,true -> Zg,false_eq_true -> Zr
open Go renaming Value -> Zk,Calls -> Zl,World -> Zp,Addr -> Zw,TypeId -> Zz
open Go.ByteArray renaming toList_eq -> ZI
open Go.Calls renaming mono -> O
open Go.Proofs renaming enters_of -> ZH
open Go.RowKit renaming Below -> Zm
open Go.RowKit.Below renaming refl -> Zi,heap_setCell -> ZG
open Go.World renaming cell? -> ZD
open List renaming getElem?_eq_getElem -> ZA,mem_cons -> ZB,not_mem_nil -> ZC,cons_append -> ZJ,nil_append -> ZK
open Nat renaming le_refl -> Zh,le_trans -> Zu
open Option renaming some -> Zc,none -> Zd
open _root_ renaming Nat -> Za,if_neg -> Ze,if_pos -> Zf,List -> Zj,Int -> Zn,Bool -> Zo,if_false -> Zq,absurd -> Zt,if_true -> Zv,beq_eq_false_iff_ne -> Zx,ByteArray -> Zy,or_false -> ZE,decide_eq_false -> ZL
namespace Go.Proofs.YtdlgkgfeoiohiaaGreatDoor
set_option linter.unusedVariables false
set_option maxHeartbeats 16000000
set_option maxRecDepth 100000
open Go.RowKit J Go.Proofs.Tryz
variable {n j m:Za}{A:Za->Prop}{t:Zz}{w:Zp}{x x0 x1:Zk}{r:Nd×Za}{lg':Zo}{cs':Zj Zk}{s:Zy}
theorem ab6:∀args W,(callFunc 251 args).run prog W=.ok (.enter 251 args) W:=ZH func251 (by kernel_rfl) rfl
theorem ajx(k:Zn):aS k=3↔k=119:=by
 unfold aS;constructor
 .intro h
  repeat' split at h
  all_goals omega
 .intro h;rw[h];decide
theorem ajz(k:Zn):aS k=4↔k=113:=by
 unfold aS;constructor
 .intro h
  repeat' split at h
  all_goals omega
 .intro h;rw[h];decide
section
variable {w w':Zp} {b:Za} {V:Za->Prop} {T:Zj (aj×Za)} {g tc:Za} {S:Zw} {i:Za} {d:Zn} {lg:Zo} {cv cv':Zk} {cs:Zj Zk}
def MZ(R:Except Za (Zj Zy×Zj Nd×Za)):PR:=match R with
 |.error e=>.error e
 |.ok y=>.ok (.mk fi 0 ⟨#[]⟩ y.1 y.2.1 0 0 0 Zb Zb Zb Zd,y.2.2)
def zZ(T:Zj (aj×Za))(n':Za)(j:Za):PR:=MZ (qR T (ji T (fm T (bV T n') 3)) Ah j)
theorem agL(n:Za):oj T (bV T n) i=lH T n (zZ T) i:=by
 cases n with
 |zero=>rfl
 |succ n=>
  unfold oj lH zZ MZ qR;rw[bV];simp only;cases dY T (ji T (fm T (bV T n) 3)) T.length [] [] (i+1)with
  |error e=>rfl
  |ok y=>
   simp only[gY];by_cases hs:ag T y.2.2 Ah=Zg
   .rw[Zf hs,Zf hs]
   .rw[Ze hs,Ze hs]
def zX(T:Zj (aj×Za))(inn:bc)(i:Za):PR:=if ag T (i+1) mX then mx T inn i else .ok (tq oP (bp T i).txt,i+1)
theorem ale(hnc:∀(w:Zp) (b:Za) (V:Za->Prop) (g tc:Za) (S:Zw) (i:Za) (lg:Zo) (cv:Zk) (cs:Zj Zk) (d:Zn),d+(n:Zn)=12->0<=d->ZS w b V T g tc S i d lg cv cs->i<T.length->(bp T i).kind=119->cK T w.heap.size b V g tc S d lg cv cs (zX T (bV T n) i) 249 #[.pointer (Zc ⟨b,0,Zd⟩)] w)
 (hob:∀n',n=n'+1->dW T (zZ T n') n' 251):dW T (fR T (bV T n)) n 244:=by
 intro w b V g tc S i lg cv cs d hd cy h hi;obtain⟨x,hx⟩:∃x,T[i]?=Zc x:=⟨_,ZA hi⟩
 have ht:bp T i=x.1:=by rw[bp,hx]
 have HN:=aa (uK h hx);have HS:=aa h;have RL:=KX;have k3:=ajx x.1.kind;have k4:=ajz x.1.kind;have iE:=h.tl;have AJ:=aa hnc;have HOB:=aa hob;have bT:b<w.heap.size:=al h.blk;have aV:=aa h.vb;have HT:=aa ht;obtain⟨kd,fg⟩:∃kd,kd=aS x.1.kind:=⟨_,rfl⟩
 rw[<-fg]at HN k3 k4;have hP:fR T (bV T n) i=if x.1.kind=119 then zX T (bV T n) i else if x.1.kind=113 then .ok (tq oP x.1.txt,i+1)else if ag T i eV then .ok (nH eV,i+1)else if ag T i wu then lH T n (zZ T) i else .error (bE T i):=by
  rw[fR,ht,<-agL];by_cases h9:x.1.kind=119
  .rw[Zf h9,zX,ht];by_cases hr:ag T (i+1) mX=Zg
   .rw[Zf ⟨h9,hr⟩,Zf hr]
   .rw[Ze (λe=>hr e.2),Zf (.inl h9),Ze hr]
  .rw[Ze (λe=>h9 e.1),Ze h9];by_cases h3:x.1.kind=113
   .rw[Zf (.inr h3),Zf h3]
   .rw[Ze (λe=>e.elim h9 h3),Ze h3]
 rw[hP];unfold cK;clear hP h ht hx hnc hob;rcases(show kd=3\/kd=4\/(kd≠3/\kd≠4)from by omega)with hk|hk|⟨uo,bI⟩
 .have h9:=k3.1 hk;rw[Zf h9];have HC:XX (∀W,Zm w.heap.size w W->_):=λW hW=>AJ.o W b V g tc S i lg cv cs d hd cy (HS.o.below hW) hi (by rw[HT.o];exact h9)
  unfold cK at HC;subst hk;clear h9 k3 k4 fg;go_enter func244,ntmps244;go_wp2_with fail;refine O HN.o ?_;rintro e w1 ⟨v,rfl,ae,hv,_⟩;rw[aI];rcases hv with rfl|⟨tv,xv,rfl⟩
  all_goals
   go_wp2_with fail;refine O (HC.o w1 ae) ?_;rintro e w2 ⟨x,er,i1,lg1,cv1,cs1,rfl,hx,bR,bC,ay,aU,aW⟩;go_wp2_with fail;go_ret2;exact⟨x,er,i1,lg1,cv1,cs1,rfl,hx,bR,(ZF.of_below ae (Zh _)).trans (bC.mono ae.size),ay,aU,aW.o.up ae.size⟩
 .have h3:=k4.1 hk;have h9:¬x.1.kind=119:=by omega
  rw[Ze h9,Zf h3];have HC:XX (∀W,Zm w.heap.size w W->Zl prog 250 #[.pointer (Zc ⟨b,0,Zd⟩)] W _):=λW hW=>Wa (HS.o.below hW) hi
  have H3:=aa h3;subst hk;clear h9 h3 k3 k4 fg;go_enter func244,ntmps244;go_wp2_with fail;refine O HN.o ?_;rintro e w1 ⟨v,rfl,ae,hv,_⟩;rw[aI];rcases hv with rfl|⟨tv,xv,rfl⟩
  all_goals
   go_wp2_with fail;refine O (HC.o w1 ae) ?_;rintro e w2 ⟨s,er,i1,rfl,bR,aM,ay,aU,aW⟩;obtain⟨_,q1,q2,q3⟩:((bp T i).kind=119\/(bp T i).kind=113)/\er=.nilIface/\s=(bp T i).txt/\i1=i+1:=by
    rcases aW.o with q|q
    .exact q
    .exact Zt (.inr (by rw[HT.o];exact H3.o)) q.1
   subst q1;subst q3;have HQ:XX (s=x.1.txt):=by show _=_;rw[q2,HT.o]
   clear q2 aW;go_wp2_with fail;go_ret2;refine⟨_,.nilIface,i+1,lg,cv,cs,rfl,.inr ⟨_,_,rfl⟩,.inl rfl,(ZF.of_below ae (Zh _)).trans (ZF.of_but aM ae.size),ay,aU,?_⟩;rw[HQ.o];exact ZR.leaf (by decide) (by decide) .name
 .have h9:¬x.1.kind=119:=λe=>uo (k3.2 e)
  have h3:¬x.1.kind=113:=λe=>bI (k4.2 e)
  rw[Ze h9,Ze h3];have e3:(kd==3)=Zb:=Zx.2 uo;have e4:(kd==4)=Zb:=Zx.2 bI;have gv:XX (∀W,Zm w.heap.size w W->Zl prog 90 #[.pointer (Zc ⟨b,0,Zd⟩),.string ⟨#[42]⟩] W _):=λW hW=>qk (HS.o.below hW) hi ⟨#[42]⟩
  have eu:XX (∀s,ag T i s=Zg->i+1<T.length):=λs e=>HS.o.sgn_more hi e
  rw[show eV=⟨#[42]⟩from rfl,show wu=⟨#[123]⟩from rfl];obtain⟨B1,dX⟩:∃B,B=ag T i ⟨#[42]⟩:=⟨_,rfl⟩
  obtain⟨B2,bZ⟩:∃B,B=ag T i ⟨#[123]⟩:=⟨_,rfl⟩
  have aT:=aa dX;have aY:=aa bZ;rw[<-dX]at gv⊢;rw[<-bZ];clear h9 h3 k3 k4 fg uo bI dX bZ;cases B1
  .rw[Ze (by simp)];have HI:XX (∀W,ZS W b V T g tc S i d lg cv cs->Zl prog 138 #[.pointer (Zc ⟨b,0,Zd⟩),.string ⟨#[123]⟩] W λe w'=>e=.returned (.bool B2)/\Zm W.heap.size W w'):=λW hW=>by rw[aY.o];exact pD hW hi _
   cases B2
   .rw[Ze (by simp)];have HW:XX (∀W,ZS W b V T g tc S i d lg cv cs->Zl prog 28 #[.pointer (Zc ⟨b,0,Zd⟩)] W λe w'=>e=.returned (aG S (bE T i))/\Zm W.heap.size W w'):=λW hW=>uL hW hi
    go_enter func244,ntmps244;go_wp2_with fail;refine O HN.o ?_;rintro e w1 ⟨v,rfl,ae,hv,_⟩;rw[aI];rcases hv with rfl|⟨tv,xv,rfl⟩
    all_goals
     go_wp2_with fail;refine O (gv.o w1 ae) ?_;rintro e w2 ⟨rfl,aM,ay⟩;simp only[Zr,Zq]at ay;go_wp2_with fail;refine O (HI.o w2 ay) ?_;rintro e w3 ⟨rfl,ap⟩;go_wp2_with fail;refine O (HW.o w3 (ay.below ap)) ?_;rintro e w4 ⟨rfl,aB⟩;rw[aG];go_wp2_with fail;go_ret2;have ee:w.heap.size<=w2.heap.size:=Zu ae.size aM.size;have dP:w.heap.size<=w3.heap.size:=Zu ee ap.size;exact⟨.nilIface,aG S (bE T i),i,lg,cv,cs,rfl,.inl rfl,nr _ _,(((ZF.of_below ae (Zh _)).trans (ZF.of_but aM ae.size)).trans (ZF.of_below ap ee)).trans (ZF.of_below aB dP),(ay.below ap).below aB,hi,rfl⟩
   .rw[Zf rfl];have aU:=eu.o _ aY.o.symm;have HD:XX (∀W,ZS W b V T g tc S i d lg cv cs->_):=λW hW=>FV (w:=W) ab6 HOB.o hd cy hW aU
    unfold cK at HD;go_enter func244,ntmps244;go_wp2_with fail;refine O HN.o ?_;rintro e w1 ⟨v,rfl,ae,hv,_⟩;rw[aI];rcases hv with rfl|⟨tv,xv,rfl⟩
    all_goals
     go_wp2_with fail;refine O (gv.o w1 ae) ?_;rintro e w2 ⟨rfl,aM,ay⟩;simp only[Zr,Zq]at ay;go_wp2_with fail;refine O (HI.o w2 ay) ?_;rintro e w3 ⟨rfl,ap⟩;go_wp2_with fail;refine O (HD.o w3 (ay.below ap)) ?_;rintro e w4 ⟨x5,er,i5,lg1,cv1,cs1,rfl,hx,bR,bC,im,mM,aW⟩;go_wp2_with fail;go_ret2;have ee:w.heap.size<=w2.heap.size:=Zu ae.size aM.size;have dP:w.heap.size<=w3.heap.size:=Zu ee ap.size;exact⟨x5,er,i5,lg1,cv1,cs1,rfl,hx,bR,(((ZF.of_below ae (Zh _)).trans (ZF.of_but aM ae.size)).trans (ZF.of_below ap ee)).trans (bC.mono dP),im,mM,aW.o.up dP⟩
  .rw[Zf rfl];have aU:=eu.o _ aT.o.symm;go_enter func244,ntmps244;go_wp2_with fail;refine O HN.o ?_;rintro e w1 ⟨v,rfl,ae,hv,_⟩;rw[aI];rcases hv with rfl|⟨tv,xv,rfl⟩
   all_goals
    go_wp2_with fail;refine O (gv.o w1 ae) ?_;rintro e w2 ⟨rfl,aM,ay⟩;simp only[Zv]at ay;go_wp2_with fail;go_ret2;refine⟨_,.nilIface,i+1,lg,cv,cs,rfl,.inr ⟨_,_,rfl⟩,.inl rfl,(ZF.of_below ae (Zh _)).trans (ZF.of_but aM ae.size),ay,aU,?_⟩;exact ZR.leaf (by decide) (by decide) .vals
end
theorem ab2:∀args W,(callFunc 242 args).run prog W=.ok (.enter 242 args) W:=ZH func242 (by kernel_rfl) rfl
theorem ab0:∀args W,(callFunc 243 args).run prog W=.ok (.enter 243 args) W:=ZH func243 (by kernel_rfl) rfl
theorem ajA(k:Zn):aS k=5↔k=114:=by
 unfold aS;constructor
 .intro h
  repeat' split at h
  all_goals omega
 .intro h;rw[h];decide
theorem ajB(k:Zn):aS k=6↔k=108:=by
 unfold aS;constructor
 .intro h
  repeat' split at h
  all_goals omega
 .intro h;rw[h];decide
section
variable {w w':Zp} {b:Za} {V:Za->Prop} {T:Zj (aj×Za)} {g tc:Za} {S:Zw} {i:Za} {d:Zn} {lg:Zo} {cv cv':Zk} {cs:Zj Zk}
def Mw(T:Zj (aj×Za))(R:PR):PR:=match R with
 |.error e=>.error e
 |.ok x=>gY T kq (if ea tB x.1.op then dn fa [x.1]else x.1) x.2
def uy(T:Zj (aj×Za))(n':Za)(j:Za):PR:=Mw T (fm T (bV T n') 3 j)
def GJ(T:Zj (aj×Za))(j:Za):Zo:=ag T j eV&&ag T (j+1) eU || ag T j eU || ag T j kW || ag T j fo || decide ((bp T j).kind=110)
def DX(T:Zj (aj×Za))(n':Za)(j:Za):PR:=if GJ T j then xa T n' j else Cp T n' j
theorem acK(n:Za):fx T (bV T n) i=if(bp T i).kind=114 then .ok (tq rX (bp T i).txt,i+1)
 else if(bp T i).kind=108 then .ok (.mk kr 0 ⟨#[]⟩ [] [] 0 0 0 Zb Zb Zb (bp T i).val,i+1)
 else if ag T i mX then lH T n (uy T) i else if ag T i iu then lH T n (DX T) i else if ag T i lA then .ok (nH lA,i+1)else fR T (bV T n) i:=by
 unfold fx;by_cases h1:(bp T i).kind=114
 .rw[Zf h1,Zf h1]
 rw[Ze h1,Ze h1];by_cases h2:(bp T i).kind=108
 .rw[Zf h2,Zf h2]
 rw[Ze h2,Ze h2];by_cases h3:ag T i mX=Zg
 .rw[Zf h3,Zf h3];cases n with
  |zero=>rfl
  |succ n=>unfold lH uy Mw;rfl
 rw[Ze h3,Ze h3];by_cases h4:ag T i iu=Zg
 .rw[Zf h4,Zf h4,PG,Tj];cases n with
  |zero=>simp[lH]
  |succ n=>unfold lH DX;rfl
 .rw[Ze h4,Ze h4]
theorem ZR.lit{x:aj}{v:Zk}(hk:x.kind=108)(p8:eI v)(h:PV w V x v)(hV:∀m,V m->A m):ZR (.ok (.mk kr 0 ⟨#[]⟩ [] [] 0 0 0 Zb Zb Zb x.val,j)) w A S (.iface 286 (.agg #[v])) .nilIface j lg (lg || eL x) cs cs:=by
 have ho:OP w A x.val v:=by
  have h2:OP w V x.val v:=h;exact h2.keep (λm hm _=>⟨rfl,hV m hm⟩)
 refine ZR.ok (r:=(.mk kr 0 ⟨#[]⟩ [] [] 0 0 0 Zb Zb Zb x.val,j)) (new:=[]) ?_ (NP.mk0 (.lit p8 ho)) (by simp) (by rw[gC,Ze (by decide),jc];exact trivial);rw[eN,gz,eL];simp[hk]
theorem akZ(hib:∀n',n=n'+1->dW T (uy T n') n' 242)(mG:∀n',n=n'+1->dW T (DX T n') n' 243)(fQ:dW T (fR T (bV T n)) n 244):dW T (fx T (bV T n)) n 237:=by
 intro w b V g tc S i lg cv cs d hd cy h hi;obtain⟨x,hx⟩:∃x,T[i]?=Zc x:=⟨_,ZA hi⟩
 have ht:bp T i=x.1:=by rw[bp,hx]
 have HN:=aa (uK h hx);have HS:=aa h;have k5:=ajA x.1.kind;have k6:=ajB x.1.kind;have iE:=h.tl;have WJ:=aa hib;have aR:=aa mG;have sy:=aa fQ;have bT:b<w.heap.size:=al h.blk;have aV:=aa h.vb;have Gm:=aa h.sep;have sn:XX (x.1.kind≠101->x.1.kind≠120->i+1<T.length):=λe1 e2=>h.more hi (by rw[ht];exact e1) (by rw[ht];exact e2)
 have eu:XX (∀s,ag T i s=Zg->i+1<T.length):=λs e=>h.sgn_more hi e
 rw[acK,ht];obtain⟨kd,fg⟩:∃kd,kd=aS x.1.kind:=⟨_,rfl⟩
 rw[<-fg]at HN k5 k6;unfold cK;clear h ht hx hib mG fQ fg;rcases(show kd=5\/kd=6\/(kd≠5/\kd≠6)from by omega)with hk|hk|⟨fc,BT⟩
 .have h5:=k5.1 hk;have aU:=sn.o (by omega) (by omega);rw[Zf h5];subst hk;clear h5 k5 k6;go_enter func237,ntmps237;go_wp2_with fail;refine O HN.o ?_;rintro e w1 ⟨v,rfl,ae,hv,_⟩;rw[aI];have bm:∀o,ZS (w1.alloc o) b V T g tc S i d lg cv cs:=λo=>HS.o.below (ae.trans ((Zi _ _).alloc ae.size _))
  have jb:=aa bm;have eh:XX (∀o,ZF w.heap.size b cv cv w (w1.alloc o)):=λo=>ZF.of_below (ae.trans ((Zi _ _).alloc ae.size _)) (Zh _)
  have z1:∀o,(w1.alloc o).cell? ⟨b,1,Zd⟩=Zc (.int .i64 i):=λo=>(jF (bm o).blk).2.1
  have zf:∀o,(w1.alloc o).frozen? ⟨b,1,Zd⟩=Zb:=λo=>(jF (bm o).blk).2.2.2.2.2 1
  clear bm ae;rcases hv with rfl|⟨tv,xv,rfl⟩
  all_goals
   go_wp2_with fail;go_ret2;exact⟨_,.nilIface,i+1,lg,cv,cs,rfl,.inr ⟨_,_,rfl⟩,.inl rfl,(eh.o _).setb _ _,(jb.o _).at (by go_num),aU,ZR.leaf (by decide) (by decide) .raw⟩
 .have h6:=k6.1 hk;have aU:=sn.o (by omega) (by omega);rw[Ze (by omega),Zf h6];have H6:=aa h6;subst hk;clear h6 k5 k6;cases lg
  all_goals
   go_enter func237,ntmps237;go_wp2_with fail;refine O HN.o ?_;rintro e w1 ⟨v,rfl,ae,hv,nh⟩;rw[aI];have bm:∀o,ZS (w1.alloc o) b V T g tc S i d _ cv cs:=λo=>HS.o.below (ae.trans ((Zi _ _).alloc ae.size _))
   have jb:=aa bm;have eh:XX (∀o,ZF w.heap.size b cv cv w (w1.alloc o)):=λo=>ZF.of_below (ae.trans ((Zi _ _).alloc ae.size _)) (Zh _)
   have z1:∀o,(w1.alloc o).cell? ⟨b,1,Zd⟩=Zc (.int .i64 i):=λo=>(jF (bm o).blk).2.1
   have z3:∀o,(w1.alloc o).cell? ⟨b,3,Zd⟩=_:=λo=>(jF (bm o).blk).2.2.2.1
   have zf:∀o j,(w1.alloc o).frozen? ⟨b,j,Zd⟩=Zb:=λo j=>(jF (bm o).blk).2.2.2.2.2 j
   have wO:XX (∀o u1 u3 m,V m->m<w1.heap.size->(((w1.alloc o).setCell ⟨b,1,Zd⟩ u1).setCell ⟨b,3,Zd⟩ u3).heap[m]?=w1.heap[m]?):=λo u1 u3 m hm ai=>by
    have E0:=aV.o m hm;rw[ZG _ _ _ _ (by simp;omega),ZG _ _ _ _ (by simp;omega)];exact((Zi _ w1).alloc (Zh _) _).block m ai
   clear bm ae;rcases hv with rfl|⟨tv,xv,rfl⟩
   all_goals
    go_wp2_with fail;go_ret2;refine⟨_,.nilIface,i+1,_,cv,cs,rfl,.inr ⟨_,_,rfl⟩,.inl rfl,((eh.o _).setb _ _).setb _ _,((jb.o _).at (by go_num)).large _,aU,?_⟩
    first
    |exact ZR.lit (lg:=Zg) H6.o (.inl rfl) (nh.o.keep (λm hm ai=>⟨wO.o _ _ _ m hm ai,hm⟩)) (λm hm=>⟨.inl hm,λe=>Zt (Gm.o m e) (by have:=aV.o m hm;omega)⟩)
    |exact ZR.lit (lg:=Zg) H6.o (.inr ⟨_,_,rfl⟩) (nh.o.keep (λm hm ai=>⟨wO.o _ _ _ m hm ai,hm⟩)) (λm hm=>⟨.inl hm,λe=>Zt (Gm.o m e) (by have:=aV.o m hm;omega)⟩)
    |exact ZR.lit (lg:=Zb) H6.o (.inl rfl) (nh.o.keep (λm hm ai=>⟨wO.o _ _ _ m hm ai,hm⟩)) (λm hm=>⟨.inl hm,λe=>Zt (Gm.o m e) (by have:=aV.o m hm;omega)⟩)
    |exact ZR.lit (lg:=Zb) H6.o (.inr ⟨_,_,rfl⟩) (nh.o.keep (λm hm ai=>⟨wO.o _ _ _ m hm ai,hm⟩)) (λm hm=>⟨.inl hm,λe=>Zt (Gm.o m e) (by have:=aV.o m hm;omega)⟩)
 .rw[Ze (λe=>fc (k5.2 e)),Ze (λe=>BT (k6.2 e))];have e5:(kd==5)=Zb:=Zx.2 fc;have e6:(kd==6)=Zb:=Zx.2 BT;have gv:XX (∀W,Zm w.heap.size w W->Zl prog 90 #[.pointer (Zc ⟨b,0,Zd⟩),.string ⟨#[64]⟩] W _):=λW hW=>qk (HS.o.below hW) hi ⟨#[64]⟩
  have mq:XX (∀W,ZS W b V T g tc S i d lg cv cs->Zl prog 138 #[.pointer (Zc ⟨b,0,Zd⟩),.string ⟨#[40]⟩] W _):=λW hW=>pD hW hi ⟨#[40]⟩
  have wM:XX (∀W,ZS W b V T g tc S i d lg cv cs->Zl prog 138 #[.pointer (Zc ⟨b,0,Zd⟩),.string ⟨#[91]⟩] W _):=λW hW=>pD hW hi ⟨#[91]⟩
  rw[show mX=⟨#[40]⟩from rfl,show iu=⟨#[91]⟩from rfl,show lA=⟨#[64]⟩from rfl];by_cases b1:ag T i ⟨#[64]⟩=Zg
  .rw[Aj b1 (by decide),Aj b1 (by decide),b1,Ze (by simp),Ze (by simp),Zf rfl];have aU:=eu.o _ b1;rw[b1]at gv;clear b1 k5 k6 fc BT;go_enter func237,ntmps237;go_wp2_with fail;refine O HN.o ?_;rintro e w1 ⟨v,rfl,ae,hv,_⟩;rw[aI];have HA:XX (∀o,Zm w.heap.size w (w1.alloc o)):=λo=>ae.trans ((Zi _ _).alloc ae.size _)
   clear ae;rcases hv with rfl|⟨tv,xv,rfl⟩
   all_goals
    go_wp2_with fail;refine O (gv.o _ (HA.o _)) ?_;rintro e w2 ⟨rfl,aM,ay⟩;simp only[Zv]at ay;go_wp2_with fail;go_ret2;exact⟨_,.nilIface,i+1,lg,cv,cs,rfl,.inr ⟨_,_,rfl⟩,.inl rfl,(ZF.of_below (HA.o _) (Zh _)).trans (ZF.of_but aM (HA.o _).size),ay,aU,ZR.leaf (by decide) (by decide) .cur⟩
  .have b1':ag T i ⟨#[64]⟩=Zb:=by simpa using b1
   rw[b1']at gv⊢;rw[Ze (show ¬(Zb=Zg) by simp)];have AH:XX (∀W w2,Zm w.heap.size w W->ab b W w2->ZF w.heap.size b cv cv w w2):=λW w2 h1 h2=>(ZF.of_below h1 (Zh _)).trans (ZF.of_but h2 h1.size)
   obtain⟨B2,bZ⟩:∃B,B=ag T i ⟨#[40]⟩:=⟨_,rfl⟩
   obtain⟨B3,jW⟩:∃B,B=ag T i ⟨#[91]⟩:=⟨_,rfl⟩
   have aY:=aa bZ;have bo:=aa jW;rw[<-bZ]at mq⊢;rw[<-jW]at wM⊢;clear b1 b1' k5 k6 fc BT bZ jW;cases B2
   .rw[Ze (show ¬(Zb=Zg) by simp)];cases B3
    .rw[Ze (show ¬(Zb=Zg) by simp)];have HD:XX (∀W,ZS W b V T g tc S i d lg cv cs->_):=λW hW=>sy.o W b V g tc S i lg cv cs d hd cy hW hi
     unfold cK at HD;go_enter func237,ntmps237;go_wp2_with fail;refine O HN.o ?_;rintro e w1 ⟨v,rfl,ae,hv,_⟩;rw[aI];have HA:XX (∀o,Zm w.heap.size w (w1.alloc o)):=λo=>ae.trans ((Zi _ _).alloc ae.size _)
     clear ae;rcases hv with rfl|⟨tv,xv,rfl⟩
     all_goals
      go_wp2_with fail;refine O (gv.o _ (HA.o _)) ?_;rintro e w2 ⟨rfl,aM,ay⟩;simp only[Zr,Zq]at ay;have cF:=aa (AH.o _ _ (HA.o _) aM);go_wp2_with fail;refine O (mq.o w2 ay) ?_;rintro e w3 ⟨rfl,ap⟩;go_wp2_with fail;refine O (wM.o w3 (ay.below ap)) ?_;rintro e w4 ⟨rfl,aB⟩;go_wp2_with fail;refine O (HD.o w4 ((ay.below ap).below aB)) ?_;rintro e w5 ⟨x5,er,i5,lg1,cv1,cs1,rfl,hx,bR,bC,im,mM,aW⟩;go_wp2_with fail;go_ret2;have dP:w.heap.size<=w3.heap.size:=Zu cF.o.size ap.size;have ux:w.heap.size<=w4.heap.size:=Zu dP aB.size;exact⟨x5,er,i5,lg1,cv1,cs1,rfl,hx,bR,((cF.o.trans (ZF.of_below ap cF.o.size)).trans (ZF.of_below aB dP)).trans (bC.mono ux),im,mM,aW.o.up ux⟩
    .rw[Zf rfl];have aU:=eu.o _ bo.o.symm;have HD:XX (∀W,ZS W b V T g tc S i d lg cv cs->_):=λW hW=>FV (w:=W) ab0 aR.o hd cy hW aU
     unfold cK at HD;go_enter func237,ntmps237;go_wp2_with fail;refine O HN.o ?_;rintro e w1 ⟨v,rfl,ae,hv,_⟩;rw[aI];have HA:XX (∀o,Zm w.heap.size w (w1.alloc o)):=λo=>ae.trans ((Zi _ _).alloc ae.size _)
     clear ae;rcases hv with rfl|⟨tv,xv,rfl⟩
     all_goals
      go_wp2_with fail;refine O (gv.o _ (HA.o _)) ?_;rintro e w2 ⟨rfl,aM,ay⟩;simp only[Zr,Zq]at ay;have cF:=aa (AH.o _ _ (HA.o _) aM);go_wp2_with fail;refine O (mq.o w2 ay) ?_;rintro e w3 ⟨rfl,ap⟩;go_wp2_with fail;refine O (wM.o w3 (ay.below ap)) ?_;rintro e w4 ⟨rfl,aB⟩;go_wp2_with fail;refine O (HD.o w4 ((ay.below ap).below aB)) ?_;rintro e w5 ⟨x5,er,i5,lg1,cv1,cs1,rfl,hx,bR,bC,im,mM,aW⟩;go_wp2_with fail;go_ret2;have dP:w.heap.size<=w3.heap.size:=Zu cF.o.size ap.size;have ux:w.heap.size<=w4.heap.size:=Zu dP aB.size;exact⟨x5,er,i5,lg1,cv1,cs1,rfl,hx,bR,((cF.o.trans (ZF.of_below ap cF.o.size)).trans (ZF.of_below aB dP)).trans (bC.mono ux),im,mM,aW.o.up ux⟩
   .rw[Zf rfl];have aU:=eu.o _ aY.o.symm;have HD:XX (∀W,ZS W b V T g tc S i d lg cv cs->_):=λW hW=>FV (w:=W) ab2 WJ.o hd cy hW aU
    unfold cK at HD;go_enter func237,ntmps237;go_wp2_with fail;refine O HN.o ?_;rintro e w1 ⟨v,rfl,ae,hv,_⟩;rw[aI];have HA:XX (∀o,Zm w.heap.size w (w1.alloc o)):=λo=>ae.trans ((Zi _ _).alloc ae.size _)
    clear ae;rcases hv with rfl|⟨tv,xv,rfl⟩
    all_goals
     go_wp2_with fail;refine O (gv.o _ (HA.o _)) ?_;rintro e w2 ⟨rfl,aM,ay⟩;simp only[Zr,Zq]at ay;have cF:=aa (AH.o _ _ (HA.o _) aM);go_wp2_with fail;refine O (mq.o w2 ay) ?_;rintro e w3 ⟨rfl,ap⟩;go_wp2_with fail;refine O (HD.o w3 (ay.below ap)) ?_;rintro e w5 ⟨x5,er,i5,lg1,cv1,cs1,rfl,hx,bR,bC,im,mM,aW⟩;go_wp2_with fail;go_ret2;have dP:w.heap.size<=w3.heap.size:=Zu cF.o.size ap.size;exact⟨x5,er,i5,lg1,cv1,cs1,rfl,hx,bR,(cF.o.trans (ZF.of_below ap cF.o.size)).trans (bC.mono dP),im,mM,aW.o.up dP⟩
end
theorem NH{x2 x3 x4:Zk}(h:w.heap[m]?=Zc (.cells #[x0,x1,x2,x3,x4] t (0,0))):w.cell? ⟨m,0,Zd⟩=Zc x0/\w.cell? ⟨m,1,Zd⟩=Zc x1/\w.cell? ⟨m,2,Zd⟩=Zc x2/\w.cell? ⟨m,3,Zd⟩=Zc x3/\w.cell? ⟨m,4,Zd⟩=Zc x4/\∀o,w.frozen? ⟨m,o,Zd⟩=Zb:=by
 refine⟨?_,?_,?_,?_,?_,λo=>?_⟩ <;> simp[ZD,Zp.frozen?,h]
theorem RG{x:Obj}(h:w.heap[m]?=Zc x)(o:Obj):(w.alloc o).heap[m]?=w.heap[m]?:=by rw[h];exact cj h
section
variable {w w':Zp} {b:Za} {V:Za->Prop} {T:Zj (aj×Za)} {g tc:Za} {S:Zw} {i:Za} {d:Zn} {lg:Zo} {cv cv':Zk} {cs:Zj Zk}
theorem ZF.setn{N:Za}{u:Zk}(h:ZF N b cv cv' w w')(hm:N<=m):ZF N b cv cv' w (w'.setCell ⟨m,j,Zd⟩ u):=
 ⟨h.os,h.tape,h.output,by simpa[Zp.setCell]using h.size,λk h1 h2 h3=>(ZG _ _ _ _ (by simp;omega)).trans (h.block k h1 h2 h3),h.own⟩
def I0(T:Zj (aj×Za))(bn:Zn)(bt:Zo)(i:Za):PR:=
 if ag T (aZ T i).2.2 fo then
  (if(bp T ((aZ T i).2.2+1)).kind=110/\(bp T ((aZ T i).2.2+1)).num=0 then .error (bE T ((aZ T i).2.2+1))
  else .ok (.mk j7 0 ⟨#[]⟩ [] [] bn (aZ T i).1 (if(aZ T ((aZ T i).2.2+1)).2.1 then(aZ T ((aZ T i).2.2+1)).1 else 1) bt (aZ T i).2.1 Zg Zd,(aZ T ((aZ T i).2.2+1)).2.2))
 else .ok (.mk j7 0 ⟨#[]⟩ [] [] bn (aZ T i).1 1 bt (aZ T i).2.1 Zg Zd,(aZ T i).2.2)
theorem alg(bn:Zn)(bt:Zo)(h:ZS w b V T g tc S i d lg cv cs)(hi:i<T.length):
 cK T w.heap.size b V g tc S d lg cv cs (I0 T bn bt i) 262 #[.pointer (Zc ⟨b,0,Zd⟩),.agg #[.bool bt,.int .i64 bn]] w:=by
 obtain⟨W,hW⟩:∃W,W=w.alloc (.cells #[.bool bt,.int .i64 bn] 295):=⟨_,rfl⟩
 have hB:Zm w.heap.size w W:=by rw[hW];exact(Zi _ w).alloc (Zh _) _
 have jK:W.heap[w.heap.size]?=Zc (.cells #[.bool bt,.int .i64 bn] 295 (0,0)):=by rw[hW];exact aE rfl
 have lr:W.heap.size=w.heap.size+1:=by rw[hW];simp
 have ju:XX (∀W',Zm w.heap.size w W'->Zl prog 261 #[.pointer (Zc ⟨b,0,Zd⟩)] W' _):=λW' hb=>Oi (h.below hb) hi
 have c0:W.cell? ⟨w.heap.size,0,Zd⟩=Zc (.bool bt):=by simp[ZD,jK]
 have c1:W.cell? ⟨w.heap.size,1,Zd⟩=Zc (.int .i64 bn):=by simp[ZD,jK]
 have bB:=aa jK;have HB:=aa hB;have iE:=h.tl;have ed:b<w.heap.size:=al h.blk;have AB:XX (∀k,cv.ownBlock=Zc k->k<w.heap.size):=λk hk=>h.row.lt hk
 obtain⟨RZ,fy⟩:∃RZ,RZ=I0 T bn bt i:=⟨_,rfl⟩
 rw[<-fy];unfold I0 at fy;obtain⟨n1,t1,j1,hj⟩:∃n1 t1 j1,aZ T i=(n1,t1,j1):=⟨_,_,_,rfl⟩
 rw[hj]at ju fy;simp only at ju fy;have fs:=aa fy;have rc:=aa lr;unfold cK;clear h hB jK fy hj lr;subst hW;go_enter func262,ntmps262
 go_upto_region 1 with fail
 go_cut[6] (λs6 wx=>∃m,s6=.pointer (Zc ⟨m,0,Zd⟩)/\w.heap.size<m/\ab b w wx/\XX (wx.heap[m]?=Zc (.cells #[.bool bt,.int .i64 bn,.bool t1,.int .i64 n1,.int .i64 1] 297 (0,0)))/\XX (ZS wx b V T g tc S j1 d lg cv cs/\j1<T.length))
 case first=>
  have Pb:XX (Zm w.heap.size w (w.alloc (.cells #[.bool bt,.int .i64 bn] 295)).drew):=HB.o.drew;have yC:XX (Zm w.heap.size w ((w.alloc (.cells #[.bool bt,.int .i64 bn] 295)).alloc (.cells #[.bool Zb,.int .i64 0,.bool Zb,.int .i64 0,.int .i64 0] 297)).drew):=(HB.o.alloc (by simp) _).drew;have rb:XX (((w.alloc (.cells #[.bool bt,.int .i64 bn] 295)).alloc (.cells #[.bool Zb,.int .i64 0,.bool Zb,.int .i64 0,.int .i64 0] 297)).drew.heap[w.heap.size+1]?=Zc (.cells #[.bool Zb,.int .i64 0,.bool Zb,.int .i64 0,.int .i64 0] 297 (0,0))):=aE (by simp)
  go_region_with (go_at_call 261;first
   |(refine O (ju.o _ Pb.o) ?_;rintro e w2 ⟨rfl,ah,cB,dL⟩;have d0:w2.cell? ⟨w.heap.size,0,Zd⟩=Zc (.bool bt):=lm c0 (ah.block _ (al bB.o) (by simp;omega));have d1:w2.cell? ⟨w.heap.size,1,Zd⟩=Zc (.int .i64 bn):=lm c1 (ah.block _ (al bB.o) (by simp;omega));have q2:w.heap.size<w2.heap.size:=(by have q:=ah.size;simp at q;omega);clear c0 c1)
   |(refine O (ju.o _ yC.o) ?_;rintro e w2 ⟨rfl,ah,cB,dL⟩;have d0:w2.cell? ⟨w.heap.size,0,Zd⟩=Zc (.bool bt):=lm c0 ((ah.block _ (by simp;omega) (by simp;omega)).trans (RG bB.o _));have d1:w2.cell? ⟨w.heap.size,1,Zd⟩=Zc (.int .i64 bn):=lm c1 ((ah.block _ (by simp;omega) (by simp;omega)).trans (RG bB.o _));have o9:=(ah.block (w.heap.size+1) (by simp) (by simp;omega)).trans (rb.o);have Ds:=aa o9;obtain⟨m0,m1,m2,m3,m4,mf⟩:=NH o9;have q2:w.heap.size<w2.heap.size:=(by have q:=ah.size;simp at q;omega);clear c0 c1 o9))
  all_goals
   go_wp2_with fail;go_meet
   first
   |exact⟨w2.heap.size,rfl,q2,(((ab.refl b w).of_below Pb.o).trans ah).alloc _,aE rfl,cB.below ((Zi _ _).alloc (Zh _) _),dL⟩
   |exact⟨w.heap.size+1,rfl,by omega,((((((((ab.refl b w).of_below yC.o).trans ah).setNew (by omega)).setNew (by omega)).setNew (by omega)).setNew (by omega)).setNew (by omega)),cY (cY (cY (cY (cY Ds.o _) _) _) _) _,((((cB.setm (by omega) (λe=>Zt (AB.o _ e) (by omega))).setm (by omega) (λe=>Zt (AB.o _ e) (by omega))).setm (by omega) (λe=>Zt (AB.o _ e) (by omega))).setm (by omega) (λe=>Zt (AB.o _ e) (by omega))).setm (by omega) (λe=>Zt (AB.o _ e) (by omega)),dL⟩
 case rest=>
  obtain⟨m,rfl,hm,aM,HM,HZ⟩:=hcut;have hj:=HZ.o.2;have HT:=aa (qk HZ.o.1 hj ⟨#[58]⟩);have HF:XX (ZF w.heap.size b cv cv w wc):=ZF.of_but aM (Zh _);have eu:XX (ag T j1 ⟨#[58]⟩=Zg->j1+1<T.length):=λe=>HZ.o.1.sgn_more hj e
  have oG:cv.ownBlock≠Zc m:=λe=>by have:=AB.o _ e;omega
  have yh:=aa oG;obtain⟨B,hB⟩:∃B,B=ag T j1 ⟨#[58]⟩:=⟨_,rfl⟩
  rw[show fo=⟨#[58]⟩from rfl,<-hB]at fs;rw[<-hB]at HT eu;clear aM hB oG c0 c1;cases B
  .go_wp2_with fail;refine O HT.o ?_;rintro e w3 ⟨rfl,ap,bm⟩;simp only[Zr,Zq]at bm;have pa:=(ap.block m (al HM.o) (by simp;omega)).trans HM.o;obtain⟨y0,y1,y2,y3,y4,yf⟩:=NH pa;clear pa;go_wp2_with fail;go_ret2;refine⟨_,.nilIface,j1,lg,cv,cs,rfl,.inr ⟨_,_,rfl⟩,.inl rfl,HF.o.trans (ZF.of_but ap HF.o.size),bm,hj,?_⟩;show ZR _ _ _ _ _ _ _ _ _ _ _;rw[fs.o,Ze (by simp)];exact ZR.leaf (by decide) (by decide) .slice
  .have l8:=eu.o rfl;obtain⟨x,hx⟩:∃x,T[j1+1]?=Zc x:=⟨_,ZA l8⟩
   have ht:bp T (j1+1)=x.1:=by rw[bp,hx]
   rw[Zf rfl,ht]at fs;have HN:XX (∀W,ZS W b V T g tc S (j1+1) d lg cv cs->Zl prog 27 #[.pointer (Zc ⟨b,0,Zd⟩)] W _):=λW hW=>uK hW hx
   have HW:XX (∀W,ZS W b V T g tc S (j1+1) d lg cv cs->Zl prog 28 #[.pointer (Zc ⟨b,0,Zd⟩)] W λe w'=>e=.returned (aG S (bE T (j1+1)))/\Zm W.heap.size W w'):=λW hW=>uL hW l8
   have aY:XX (∀W,ZS W b V T g tc S (j1+1) d lg cv cs->Zl prog 261 #[.pointer (Zc ⟨b,0,Zd⟩)] W _):=λW hW=>Oi hW l8
   obtain⟨n2,t2,j2,nu⟩:∃n2 t2 j2,aZ T (j1+1)=(n2,t2,j2):=⟨_,_,_,rfl⟩
   rw[nu]at aY fs;simp only at aY fs;have k7:=Ja x.1.kind;obtain⟨kd,fg⟩:∃kd,kd=aS x.1.kind:=⟨_,rfl⟩
   rw[<-fg]at HN k7;by_cases hz:kd=7/\x.1.num=0
   .rw[Zf ⟨k7.1 hz.1,hz.2⟩]at fs;have e7:(kd==7)=Zg:=by rw[hz.1];rfl
    have e0:(x.1.num==0)=Zg:=by rw[hz.2];rfl
    clear hz k7 fg nu ht hx;go_wp2_with fail;refine O HT.o ?_;rintro e w3 ⟨rfl,ap,bm⟩;simp only[Zv]at bm;have eh:=aa (HF.o.trans (ZF.of_but ap HF.o.size));go_wp2_with fail;refine O (HN.o w3 bm) ?_;rintro e w4 ⟨v,rfl,aB,hv,_⟩;rw[aI];have lY:XX (∀o,ZS (w4.alloc o) b V T g tc S (j1+1) d lg cv cs):=λo=>bm.below (aB.trans ((Zi _ _).alloc aB.size _))
    have lW:XX (∀o,ZF w.heap.size b cv cv w (w4.alloc o)):=λo=>eh.o.trans (ZF.of_below (aB.trans ((Zi _ _).alloc aB.size _)) eh.o.size)
    rcases hv with rfl|⟨tv,xv,rfl⟩
    all_goals
     go_wp2_with fail;refine O (HW.o _ (lY.o _)) ?_;rintro e w5 ⟨rfl,bP⟩;rw[aG];go_wp2_with fail;go_ret2;refine⟨.nilIface,aG S (bE T (j1+1)),j1+1,lg,cv,cs,rfl,.inl rfl,nr _ _,(lW.o _).trans (ZF.of_below bP (lW.o _).size),(lY.o _).below bP,l8,?_⟩;show ZR _ _ _ _ _ _ _ _ _ _ _;rw[fs.o]
     rfl
   .rw[Ze (λe=>hz ⟨k7.2 e.1,e.2⟩)]at fs;have dP:((kd==7)=Zg/\(x.1.num==0)=Zb)\/(kd==7)=Zb:=by
     by_cases q:kd=7
     .exact .inl ⟨by rw[q];rfl,Zx.2 (λe=>hz ⟨q,e⟩)⟩
     .exact .inr (Zx.2 q)
    clear hz k7 fg nu ht hx HW;rcases dP with⟨e7,e0⟩|e7
    all_goals
     cases t2
     all_goals
      go_wp2_with fail;refine O HT.o ?_;rintro e w3 ⟨rfl,ap,bm⟩;simp only[Zv]at bm;have eh:=aa (HF.o.trans (ZF.of_but ap HF.o.size));have pa:=(ap.block m (al HM.o) (by simp;omega)).trans HM.o;have Gg:=aa pa;clear pa;go_wp2_with fail;refine O (HN.o w3 bm) ?_;rintro e w4 ⟨v,rfl,aB,hv,_⟩;rw[aI];have lY:XX (∀o,ZS (w4.alloc o) b V T g tc S (j1+1) d lg cv cs):=λo=>bm.below (aB.trans ((Zi _ _).alloc aB.size _))
      have lW:XX (∀o,ZF w.heap.size b cv cv w (w4.alloc o)):=λo=>eh.o.trans (ZF.of_below (aB.trans ((Zi _ _).alloc aB.size _)) eh.o.size)
      have OO:XX (∀o,(w4.alloc o).heap[m]?=_):=λo=>cj ((aB.block m (al Gg.o)).trans Gg.o)
      clear aB ap;rcases hv with rfl|⟨tv,xv,rfl⟩
      all_goals
       go_wp2_with fail;refine O (aY.o _ (lY.o _)) ?_;rintro e w5 ⟨rfl,bP,im,mM⟩;have oI:=(bP.block m (al (OO.o _)) (by simp;omega)).trans (OO.o _);have hmz:=al oI;have jR:=aa ((lW.o _).trans (ZF.of_but bP (lW.o _).size));have HM5:=aa oI;have lF:=aa im;obtain⟨y0,y1,y2,y3,y4,yf⟩:=NH oI;clear oI bP im;go_wp2_with fail;go_ret2
       first
       |(refine⟨_,.nilIface,j2,lg,cv,cs,rfl,.inr ⟨_,_,rfl⟩,.inl rfl,jR.o.trans (ZF.of_below ((Zi _ _).alloc (Zh _) _) jR.o.size),lF.o.below ((Zi _ _).alloc (Zh _) _),mM,?_⟩;show ZR _ _ _ _ _ _ _ _ _ _ _;rw[fs.o];exact ZR.leaf (by decide) (by decide) .slice)
       |(refine⟨_,.nilIface,j2,lg,cv,cs,rfl,.inr ⟨_,_,rfl⟩,.inl rfl,(jR.o.setn (by omega)).trans (ZF.of_below ((Zi _ _).alloc (Zh _) _) (jR.o.setn (by omega)).size),(lF.o.setm (by omega) yh.o).below ((Zi _ _).alloc (Zh _) _),mM,?_⟩;show ZR _ _ _ _ _ _ _ _ _ _ _;rw[fs.o];exact ZR.leaf (by decide) (by decide) .slice)
end
theorem Pw(h:w.heap[m]?=Zc (.cells #[x0,x1] t (0,0))):w.cell? ⟨m,0,Zd⟩=Zc x0/\w.cell? ⟨m,1,Zd⟩=Zc x1:=by constructor <;> simp[ZD,h]
section
variable {w w':Zp} {b:Za} {V:Za->Prop} {T:Zj (aj×Za)} {g tc:Za} {S:Zw} {i:Za} {d:Zn} {lg:Zo} {cv cv':Zk} {cs:Zj Zk}
def Fi(T:Zj (aj×Za))(i:Za):PR:=if ag T (aZ T i).2.2 fo then I0 T (aZ T i).1 (aZ T i).2.1 ((aZ T i).2.2+1)
 else if(aZ T i).2.1 then .ok (.mk oO 0 ⟨#[]⟩ [] [] (aZ T i).1 0 0 Zg Zb Zb Zd,(aZ T i).2.2)else .error (bE T (aZ T i).2.2)
theorem afz(f:(Za->PR)×(Za->PR)):fH T f i=if ag T i eU then .ok (nH qj,i)else if ag T i eV then .ok (nH pA,i+1)else if ag T i kW then tr om (f.2 (i+1))else Fi T i:=by
 unfold fH Fi;by_cases h1:ag T i eU=Zg
 .rw[Zf h1,Zf h1]
 rw[Ze h1,Ze h1];by_cases h2:ag T i eV=Zg
 .rw[Zf h2,Zf h2]
 rw[Ze h2,Ze h2];by_cases h3:ag T i kW=Zg
 .rw[Zf h3,Zf h3];rfl
 rw[Ze h3,Ze h3];by_cases h4:ag T (aZ T i).2.2 fo=Zg
 .rw[Zf h4,Zf h4];rfl
 rw[Ze h4,Ze h4];unfold aZ;by_cases h5:(bp T i).kind=110
 .rw[Zf h5];rfl
 .rw[Ze h5]
theorem ak0(h:ZS w b V T g tc S i d lg cv cs)(hi:i<T.length):cK T w.heap.size b V g tc S d lg cv cs (Fi T i) 258 #[.pointer (Zc ⟨b,0,Zd⟩)] w:=by
 have ju:=aa (Oi h hi);have ed:b<w.heap.size:=al h.blk;obtain⟨RZ,fy⟩:∃RZ,RZ=Fi T i:=⟨_,rfl⟩
 rw[<-fy];unfold Fi at fy;obtain⟨n1,t1,j1,hj⟩:∃n1 t1 j1,aZ T i=(n1,t1,j1):=⟨_,_,_,rfl⟩
 rw[hj]at ju fy;simp only at ju fy;rw[show fo=⟨#[58]⟩from rfl]at fy;have fs:=aa fy;have HT:XX (∀W,ZS W b V T g tc S j1 d lg cv cs->j1<T.length->Zl prog 90 #[.pointer (Zc ⟨b,0,Zd⟩),.string ⟨#[58]⟩] W _):=λW hW hl=>qk hW hl ⟨#[58]⟩
 have eu:XX (∀W,ZS W b V T g tc S j1 d lg cv cs->j1<T.length->ag T j1 ⟨#[58]⟩=Zg->j1+1<T.length):=λW hW hl e=>hW.sgn_more hl e
 have wQ:XX (∀W,ZS W b V T g tc S (j1+1) d lg cv cs->j1+1<T.length->_):=λW hW hl=>alg n1 t1 (w:=W) hW hl
 have HW:XX (∀W,ZS W b V T g tc S j1 d lg cv cs->j1<T.length->Zl prog 28 #[.pointer (Zc ⟨b,0,Zd⟩)] W λe w'=>e=.returned (aG S (bE T j1))/\Zm W.heap.size W w'):=λW hW hl=>uL hW hl
 obtain⟨B,hB⟩:∃B,B=ag T j1 ⟨#[58]⟩:=⟨_,rfl⟩
 rw[<-hB]at fs HT eu;unfold cK at wQ⊢;clear h fy hj hB;cases B
 .rw[Ze (by simp)]at fs;cases t1
  all_goals
   go_enter func258,ntmps258;go_wp2_with fail;refine O ju.o ?_;rintro e w2 ⟨rfl,ah,cB,dL⟩;have cF:XX (∀o,ZF w.heap.size b cv cv w (w2.alloc o)):=λo=>(ZF.of_but (cv:=cv) ah (Zh _)).trans (ZF.of_below ((Zi _ w2).alloc (Zh _) o) ah.size)
   have fj:XX (∀o,ZS (w2.alloc o) b V T g tc S j1 d lg cv cs):=λo=>cB.below ((Zi _ _).alloc (Zh _) _)
   have adF:b<w2.heap.size:=al cB.blk;clear ah cB;go_wp2_with fail;refine O (HT.o _ (fj.o _) dL) ?_;rintro e w3 ⟨rfl,ap,bm⟩;simp only[Zr,Zq]at bm;have pa:=(ap.block w2.heap.size (by simp) (by simp;omega)).trans (aE (W:=w2) rfl);obtain⟨y0,y1⟩:=Pw pa;have eh:=aa ((cF.o _).trans (ZF.of_but ap (cF.o _).size));clear pa ap;go_wp2_with fail
   first
   |(
    refine O (HW.o w3 bm dL) ?_;rintro e w4 ⟨rfl,aB⟩;rw[aG];go_wp2_with fail;go_ret2;refine⟨.nilIface,aG S (bE T j1),j1,lg,cv,cs,rfl,.inl rfl,nr _ _,eh.o.trans (ZF.of_below aB eh.o.size),bm.below aB,dL,?_⟩;show ZR _ _ _ _ _ _ _ _ _ _ _;rw[fs.o]
    rfl)
   |(
    go_ret2;refine⟨_,.nilIface,j1,lg,cv,cs,rfl,.inr ⟨_,_,rfl⟩,.inl rfl,eh.o,bm,dL,?_⟩;show ZR _ _ _ _ _ _ _ _ _ _ _;rw[fs.o];exact ZR.leaf (by decide) (by decide) .index)
 .rw[Zf rfl]at fs;go_enter func258,ntmps258;go_wp2_with fail;refine O ju.o ?_;rintro e w2 ⟨rfl,ah,cB,dL⟩;have cF:XX (∀o,ZF w.heap.size b cv cv w (w2.alloc o)):=λo=>(ZF.of_but (cv:=cv) ah (Zh _)).trans (ZF.of_below ((Zi _ w2).alloc (Zh _) o) ah.size)
  have fj:XX (∀o,ZS (w2.alloc o) b V T g tc S j1 d lg cv cs):=λo=>cB.below ((Zi _ _).alloc (Zh _) _)
  have adF:b<w2.heap.size:=al cB.blk;have rD:=eu.o w2 cB dL (by simp);clear ah cB;go_wp2_with fail;refine O (HT.o _ (fj.o _) dL) ?_;rintro e w3 ⟨rfl,ap,bm⟩;simp only[Zv]at bm;have pa:=(ap.block w2.heap.size (by simp) (by simp;omega)).trans (aE (W:=w2) rfl);obtain⟨y0,y1⟩:=Pw pa;have eh:=aa ((cF.o _).trans (ZF.of_but ap (cF.o _).size));clear pa ap;go_wp2_with fail;refine O (wQ.o w3 bm rD) ?_;rintro e w4 ⟨x5,er,i5,lg1,cv1,cs1,rfl,hx,bR,bC,im,mM,aW⟩;go_wp2_with fail;go_ret2;refine⟨x5,er,i5,lg1,cv1,cs1,rfl,hx,bR,eh.o.trans (bC.mono eh.o.size),im,mM,?_⟩;rw[fs.o];exact aW.o.up eh.o.size
end
section
variable {w w':Zp} {b:Za} {V:Za->Prop} {T:Zj (aj×Za)} {g tc:Za} {S:Zw} {i:Za} {d:Zn} {lg:Zo} {cv cv':Zk} {cs:Zj Zk}
def Iq(T:Zj (aj×Za))(n':Za)(j:Za):PR:=fH T (fA T (bV T n'),fm T (bV T n') 3) j
theorem ak2(hp:dW T (fm T (bV T n) 3) n 26):dW T (Iq T n) n 252:=by
 intro w b V g tc S i lg cv cs d hd cy h hi;have HI:=aa (pD h hi ⟨#[93]⟩);have gv:XX (∀W,ZS W b V T g tc S i d lg cv cs->Zl prog 90 #[.pointer (Zc ⟨b,0,Zd⟩),.string ⟨#[42]⟩] W _):=λW hW=>qk hW hi ⟨#[42]⟩
 have gw:XX (∀W,ZS W b V T g tc S i d lg cv cs->Zl prog 90 #[.pointer (Zc ⟨b,0,Zd⟩),.string ⟨#[63]⟩] W _):=λW hW=>qk hW hi ⟨#[63]⟩
 have HX:XX (∀W,ZS W b V T g tc S i d lg cv cs->_):=λW hW=>ak0 (w:=W) hW hi
 have eu:XX (∀s,ag T i s=Zg->i+1<T.length):=λs e=>h.sgn_more hi e
 have HP:XX (∀W,i+1<T.length->ZS W b V T g tc S (i+1) d lg cv cs->_):=λW hl hW=>hp W b V g tc S (i+1) lg cv cs d hd cy hW hl
 have HS:=aa h;rw[Iq,afz,show eU=⟨#[93]⟩from rfl,show eV=⟨#[42]⟩from rfl,show kW=⟨#[63]⟩from rfl];unfold cK at HX HP⊢;clear h hp;by_cases b1:ag T i ⟨#[93]⟩=Zg
 .rw[Zf b1];rw[b1]at HI;clear b1;go_enter func252,ntmps252;go_wp2_with fail;refine O HI.o ?_;rintro e w1 ⟨rfl,ae⟩;go_wp2_with fail;go_ret2;exact⟨_,.nilIface,i,lg,cv,cs,rfl,.inr ⟨_,_,rfl⟩,.inl rfl,ZF.of_below ae (Zh _),HS.o.below ae,hi,ZR.leaf (by decide) (by decide) .flat⟩
 rw[Ze b1];rw[show ag T i ⟨#[93]⟩=Zb by simpa using b1]at HI;clear b1;by_cases b2:ag T i ⟨#[42]⟩=Zg
 .rw[Zf b2];have aU:=eu.o _ b2;rw[b2]at gv;clear b2;go_enter func252,ntmps252;go_wp2_with fail;refine O HI.o ?_;rintro e w1 ⟨rfl,ae⟩;go_wp2_with fail;refine O (gv.o w1 (HS.o.below ae)) ?_;rintro e w2 ⟨rfl,aM,ay⟩;simp only[Zv]at ay;go_wp2_with fail;go_ret2;exact⟨_,.nilIface,i+1,lg,cv,cs,rfl,.inr ⟨_,_,rfl⟩,.inl rfl,(ZF.of_below ae (Zh _)).trans (ZF.of_but aM ae.size),ay,aU,ZR.leaf (by decide) (by decide) .things⟩
 rw[Ze b2];rw[show ag T i ⟨#[42]⟩=Zb by simpa using b2]at gv;clear b2;have AH:XX (∀W w2 w3,Zm w.heap.size w W->ab b W w2->ab b w2 w3->ZF w.heap.size b cv cv w w3):=λW w2 w3 h1 h2 h3=>((ZF.of_below h1 (Zh _)).trans (ZF.of_but h2 h1.size)).trans (ZF.of_but h3 (Zu h1.size h2.size))
 by_cases b3:ag T i ⟨#[63]⟩=Zg
 .rw[Zf b3];have aU:=eu.o _ b3;rw[b3]at gw;clear b3;go_enter func252,ntmps252;go_wp2_with fail;refine O HI.o ?_;rintro e w1 ⟨rfl,ae⟩;go_wp2_with fail;refine O (gv.o w1 (HS.o.below ae)) ?_;rintro e w2 ⟨rfl,aM,ay⟩;simp only[Zr,Zq]at ay;go_wp2_with fail;refine O (gw.o w2 ay) ?_;rintro e w3 ⟨rfl,EC,bm⟩;simp only[Zv]at bm;have eh:=aa (AH.o _ _ _ ae aM EC);clear ae aM EC;go_wp2_with fail;refine O (HP.o w3 aU bm) ?_;rintro e w4 ⟨x,er,i1,lg1,cv1,cs1,rfl,hx,bR,bC,cB,zu,aW⟩;have HR:XX (ZR (tr om (fm T (bV T n) 3 (i+1))) w4 (λm=>(V m\/w.heap.size<=m)/\cv1.ownBlock≠Zc m) S (.iface 301 (.agg #[x])) er i1 lg lg1 cs cs1):=ZR.wrap (by decide) (by decide) .filter (aW.o.up eh.o.size);have HF:XX (ZF w.heap.size b cv cv1 w w4):=eh.o.trans (bC.mono eh.o.size);have lY:=aa cB;clear aW bC cB ay bm;rcases hx with rfl|⟨t5,z5,rfl⟩
  all_goals
   go_wp2_with fail;go_ret2;exact⟨_,er,i1,lg1,cv1,cs1,rfl,.inr ⟨_,_,rfl⟩,bR,HF.o,lY.o,zu,HR.o⟩
 rw[Ze b3];rw[show ag T i ⟨#[63]⟩=Zb by simpa using b3]at gw;clear b3;go_enter func252,ntmps252;go_wp2_with fail;refine O HI.o ?_;rintro e w1 ⟨rfl,ae⟩;go_wp2_with fail;refine O (gv.o w1 (HS.o.below ae)) ?_;rintro e w2 ⟨rfl,aM,ay⟩;simp only[Zr,Zq]at ay;go_wp2_with fail;refine O (gw.o w2 ay) ?_;rintro e w3 ⟨rfl,EC,bm⟩;simp only[Zr,Zq]at bm;have eh:=aa (AH.o _ _ _ ae aM EC);clear ae aM EC;go_wp2_with fail;refine O (HX.o w3 bm) ?_;rintro e w4 ⟨x,er,i1,lg1,cv1,cs1,rfl,hx,bR,bC,cB,zu,aW⟩;go_wp2_with fail;go_ret2;exact⟨x,er,i1,lg1,cv1,cs1,rfl,hx,bR,eh.o.trans (bC.mono eh.o.size),cB,zu,aW.o.up eh.o.size⟩
def xK(T:Zj (aj×Za))(s:Zy)(R:PR):PR:=match R with
 |.error e=>.error e
 |.ok x=>gY T s x.1 x.2
theorem ZR.next{R:PR}(hR:R=.ok r)(h:ZR R w A S x .nilIface j lg lg' cs cs')(hs:ag T j s=Zg)(hk:∀i,A i->i<w.heap.size->w'.heap[i]?=w.heap[i]?/\A i):ZR (xK T s R) w' A S x .nilIface (j+1) lg lg' cs cs':=by
 subst hR;have h:=h.keep hk;obtain⟨q1,q2,q3,q4,new,q5,q6⟩:=h;subst q2;rw[xK,gY,Zf hs];exact⟨rfl,rfl,q3,q4,new,q5,q6⟩
theorem V7(hp:dW T (fm T (bV T n) 3) n 26):dW T (xa T n) n 245:=by
 intro w b V g tc S i lg cv cs d hd cy h hi;have HP:=aa (ak2 hp w b V g tc S i lg cv cs d hd cy h hi);have aV:=aa h.vb;have ed:b<w.heap.size:=al h.blk;rw[show xa T n i=xK T ⟨#[93]⟩ (Iq T n i)from rfl];obtain⟨R,hR⟩:∃R,R=Iq T n i:=⟨_,rfl⟩
 rw[<-hR]at HP⊢;unfold cK at HP⊢;clear h hp hR;go_enter func245,ntmps245;go_wp2_with fail;refine O HP.o ?_;rintro e w1 ⟨x,er,i1,lg1,cv1,cs1,rfl,hx,bR,bC,ay,aU,aW⟩;cases R with
 |error p=>
  have hr:er=aG S p:=aW.o;subst hr;rw[aG];clear aW bR;go_wp2_with fail;go_ret2;exact⟨.nilIface,aG S p,i1,lg1,cv1,cs1,rfl,.inl rfl,nr _ _,bC,ay,aU,rfl⟩
 |ok r=>
  have he:er=.nilIface:=aW.o.1;have hj:i1=r.2:=aW.o.2.1;subst he;have HT:=aa (qk ay aU ⟨#[93]⟩);have eM:=aa ay;have gO:=aa bC;have HW:XX (∀W,ZS W b V T g tc S i1 d lg1 cv1 cs1->Zl prog 28 #[.pointer (Zc ⟨b,0,Zd⟩)] W λe w'=>e=.returned (aG S (bE T i1))/\Zm W.heap.size W w'):=λW hW=>uL hW aU
  have eu:XX (∀s,ag T i1 s=Zg->i1+1<T.length):=λs e=>ay.sgn_more aU e
  have HJ:=aa hj;clear ay bC hj bR;by_cases b1:ag T i1 ⟨#[93]⟩=Zg
  .have dL:=eu.o _ b1;rw[b1]at HT;have aT:=aa b1;clear b1;go_wp2_with fail;refine O HT.o ?_;rintro e w2 ⟨rfl,aM,cB⟩;simp only[Zv]at cB;have HR:XX (ZR (xK T ⟨#[93]⟩ (.ok r)) w2 (λm=>(V m\/w.heap.size<=m)/\cv1.ownBlock≠Zc m) S x .nilIface (i1+1) lg lg1 cs cs1):=ZR.next rfl aW.o aT.o (λk hk ai=>⟨aM.block k ai (by
    have:k≠b:=by rcases hk.1 with q|q;have:=aV.o k q;omega;omega
    simpa using this),hk⟩)
   have HF:=aa (gO.o.trans (ZF.of_but aM gO.o.size));clear aW aM;rcases hx with rfl|⟨t5,z5,rfl⟩
   .go_wp2_with fail;go_ret2;exact⟨_,.nilIface,i1+1,lg1,cv1,cs1,rfl,.inl rfl,.inl rfl,HF.o,cB,dL,HR.o⟩
   .go_wp2_with fail;go_ret2;exact⟨_,.nilIface,i1+1,lg1,cv1,cs1,rfl,.inr ⟨_,_,rfl⟩,.inl rfl,HF.o,cB,dL,HR.o⟩
  .have aT:XX (ag T i1 ⟨#[93]⟩=Zg->False):=b1;rw[show ag T i1 ⟨#[93]⟩=Zb by simpa using b1]at HT;clear b1 aW;go_wp2_with fail;refine O HT.o ?_;rintro e w2 ⟨rfl,aM,cB⟩;simp only[Zr,Zq]at cB;have HF:=aa (gO.o.trans (ZF.of_but aM gO.o.size));go_wp2_with fail;refine O (HW.o w2 cB) ?_;rintro e w3 ⟨rfl,ap⟩;rw[aG];go_wp2_with fail;go_ret2;refine⟨.nilIface,aG S (bE T i1),i1,lg1,cv1,cs1,rfl,.inl rfl,nr _ _,HF.o.trans (ZF.of_below ap HF.o.size),cB.below ap,aU,?_⟩;show ZR _ _ _ _ _ _ _ _ _ _ _;rw[xK,gY,<-HJ.o,Ze aT.o]
   rfl
end
section
variable {w w':Zp} {b:Za} {V:Za->Prop} {T:Zj (aj×Za)} {g tc:Za} {S:Zw} {i:Za} {d:Zn} {lg:Zo} {cv cv':Zk} {cs:Zj Zk}
theorem akT(h:ZS w b V T g tc S i d lg cv cs)(hi:i<T.length):
 Zl prog 248 #[.pointer (Zc ⟨b,0,Zd⟩)] w λe w'=>e=.returned (.bool (GJ T i))/\Zm w.heap.size w w':=by
 have HI:=aa (pD h hi ⟨#[42]⟩);have HS:=aa h;have iE:=h.tl;unfold GJ;rw[show eV=⟨#[42]⟩from rfl,show eU=⟨#[93]⟩from rfl,show kW=⟨#[63]⟩from rfl,show fo=⟨#[58]⟩from rfl];by_cases b1:ag T i ⟨#[42]⟩=Zg
 .have aU:=h.sgn_more hi b1;rw[Aj (t:=⟨#[93]⟩) b1 (by decide),Aj (t:=⟨#[63]⟩) b1 (by decide),Aj (t:=⟨#[58]⟩) b1 (by decide),ND b1,b1];rw[b1]at HI;obtain⟨x,hx⟩:∃x,T[i+1]?=Zc x:=⟨_,ZA aU⟩
  have jD:ag T (i+1) ⟨#[93]⟩=(decide (aS x.1.kind=2)&&decide (x.1.txt=⟨#[93]⟩)):=by
   rw[ag,hx];simp only;rw[Zo.eq_iff_iff];simp[Jb]
  rw[show(Zg&&ag T (i+1) ⟨#[93]⟩ || false || false || false || decide ((115:Zn)=110))=ag T (i+1) ⟨#[93]⟩ by cases ag T (i+1) ⟨#[93]⟩ <;> rfl,jD];obtain⟨v,hv,hc⟩:=h.toks.cells (i+1) x hx;have p8:=hv.1;have HC:=aa hc;have hG:((aS x.1.kind==2)=Zg/\(x.1.txt.toList==[93])=Zg/\(decide (aS x.1.kind=2)&&decide (x.1.txt=⟨#[93]⟩))=Zg)\/((aS x.1.kind==2)=Zg/\(x.1.txt.toList==[93])=Zb/\(decide (aS x.1.kind=2)&&decide (x.1.txt=⟨#[93]⟩))=Zb)\/((aS x.1.kind==2)=Zb/\True/\(decide (aS x.1.kind=2)&&decide (x.1.txt=⟨#[93]⟩))=Zb):=by
   by_cases q:aS x.1.kind=2
   .by_cases q2:x.1.txt=⟨#[93]⟩
    .have q3:=xU q2;rw[show(⟨#[93]⟩:Zy).toList=[93] by rw[ZI]]at q3;exact .inl ⟨by rw[q];rfl,q3,by simp[q,q2]⟩
    .have q3:=ww q2;rw[show(⟨#[93]⟩:Zy).toList=[93] by rw[ZI]]at q3;exact .inr (.inl ⟨by rw[q];rfl,q3,by simp[q2]⟩)
   .exact .inr (.inr ⟨Zx.2 q,trivial,by simp[q]⟩)
  obtain⟨kd,fg⟩:∃kd,kd=aS x.1.kind:=⟨_,rfl⟩
  rw[<-fg]at hG⊢;have WM:=aa fg;have k1:((i:Zn)+1)<(T.length:Zn):=by omega
  clear h hx jD hc hv b1 fg;rcases hG with⟨e2,e3,e4⟩|⟨e2,e3,e4⟩|⟨e2,e3,e4⟩
  all_goals
   rw[e4];clear e4;rcases p8 with rfl|⟨tv,xv,rfl⟩
   all_goals
    go_enter func248,ntmps248;go_wp2_with fail;refine O HI.o ?_;rintro e w1 ⟨rfl,ae⟩;have hB:Zm w.heap.size w (w1.alloc (.cells #[.int .i64 0,.int .i64 0,.string ⟨#[]⟩,.int .i64 0,.nilIface,.bool Zb] 63)):=ae.trans ((Zi _ w1).alloc ae.size _);obtain⟨z0,z1,_,_,_,_⟩:=jF HS.o.blk;have y0:w.cell? ⟨g,(i+1)*6,Zd⟩=_:=HC.o 0 _ rfl;have y1:=HC.o 1 _ rfl;have y2:=HC.o 2 _ rfl;have y3:=HC.o 3 _ rfl;have y4:=HC.o 4 _ rfl;have y5:=HC.o 5 _ rfl;rw[<-WM.o]at y0;have z0:=gi z0 ae;have z0:=gi z0 ((Zi _ w1).alloc (Zh _) (.cells #[.int .i64 0,.int .i64 0,.string ⟨#[]⟩,.int .i64 0,.nilIface,.bool Zb] 63));have z1:=gi z1 ae;have z1:=gi z1 ((Zi _ w1).alloc (Zh _) (.cells #[.int .i64 0,.int .i64 0,.string ⟨#[]⟩,.int .i64 0,.nilIface,.bool Zb] 63));have y0:=gi y0 ae;have y0:=gi y0 ((Zi _ w1).alloc (Zh _) (.cells #[.int .i64 0,.int .i64 0,.string ⟨#[]⟩,.int .i64 0,.nilIface,.bool Zb] 63));have y1:=gi y1 ae;have y1:=gi y1 ((Zi _ w1).alloc (Zh _) (.cells #[.int .i64 0,.int .i64 0,.string ⟨#[]⟩,.int .i64 0,.nilIface,.bool Zb] 63));have y2:=gi y2 ae;have y2:=gi y2 ((Zi _ w1).alloc (Zh _) (.cells #[.int .i64 0,.int .i64 0,.string ⟨#[]⟩,.int .i64 0,.nilIface,.bool Zb] 63));have y3:=gi y3 ae;have y3:=gi y3 ((Zi _ w1).alloc (Zh _) (.cells #[.int .i64 0,.int .i64 0,.string ⟨#[]⟩,.int .i64 0,.nilIface,.bool Zb] 63));have y4:=gi y4 ae;have y4:=gi y4 ((Zi _ w1).alloc (Zh _) (.cells #[.int .i64 0,.int .i64 0,.string ⟨#[]⟩,.int .i64 0,.nilIface,.bool Zb] 63));have y5:=gi y5 ae;have y5:=gi y5 ((Zi _ w1).alloc (Zh _) (.cells #[.int .i64 0,.int .i64 0,.string ⟨#[]⟩,.int .i64 0,.nilIface,.bool Zb] 63));have HB:=aa hB;have aT:=aa ae;clear hB ae;go_wp2_with fail
    go_region
    all_goals
     go_wp2_with fail;go_ret;exact⟨rfl,(aT.o.trans ((Zi _ _).alloc aT.o.size _)).drew⟩
 .obtain⟨x,hx⟩:∃x,T[i]?=Zc x:=⟨_,ZA hi⟩
  have ht:bp T i=x.1:=by rw[bp,hx]
  have b1':ag T i ⟨#[42]⟩=Zb:=by simpa using b1
  rw[b1']at HI;have HN:XX (∀W,ZS W b V T g tc S i d lg cv cs->Zl prog 27 #[.pointer (Zc ⟨b,0,Zd⟩)] W _):=λW hW=>uK hW hx
  have RL:=KX;have k7:=Ja x.1.kind;obtain⟨kd,fg⟩:∃kd,kd=aS x.1.kind:=⟨_,rfl⟩
  rw[<-fg]at HN k7;rw[b1',ht];by_cases q7:kd=7
  .rw[show(Zb&&ag T (i+1) ⟨#[93]⟩ || ag T i ⟨#[93]⟩ || ag T i ⟨#[63]⟩ || ag T i ⟨#[58]⟩ || decide (x.1.kind=110))=Zg by simp[k7.1 q7]];subst q7;clear h b1 b1' hx ht fg k7;go_enter func248,ntmps248;go_wp2_with fail;refine O HI.o ?_;rintro e w1 ⟨rfl,ae⟩;go_wp2_with fail;refine O (HN.o w1 (HS.o.below ae)) ?_;rintro e w2 ⟨v,rfl,ah,hv,_⟩;rw[aI];rcases hv with rfl | ⟨tv,xv,rfl⟩
   all_goals
    go_wp2_with fail;go_ret;exact⟨rfl,ae.trans (ah.mono ae.size)⟩
  .have e7:(kd==7)=Zb:=Zx.2 q7;rw[show(Zb&&ag T (i+1) ⟨#[93]⟩ || ag T i ⟨#[93]⟩ || ag T i ⟨#[63]⟩ || ag T i ⟨#[58]⟩ || decide (x.1.kind=110))=(ag T i ⟨#[93]⟩ || ag T i ⟨#[58]⟩ || ag T i ⟨#[63]⟩) by
    rw[ZL (λe=>q7 (k7.2 e))];cases ag T i ⟨#[93]⟩ <;> cases ag T i ⟨#[63]⟩ <;> cases ag T i ⟨#[58]⟩ <;> rfl]
   have pG:XX (∀W,ZS W b V T g tc S i d lg cv cs->Zl prog 138 #[.pointer (Zc ⟨b,0,Zd⟩),.string ⟨#[93]⟩] W _):=λW hW=>pD hW hi ⟨#[93]⟩
   have mq:XX (∀W,ZS W b V T g tc S i d lg cv cs->Zl prog 138 #[.pointer (Zc ⟨b,0,Zd⟩),.string ⟨#[58]⟩] W _):=λW hW=>pD hW hi ⟨#[58]⟩
   have wM:XX (∀W,ZS W b V T g tc S i d lg cv cs->Zl prog 138 #[.pointer (Zc ⟨b,0,Zd⟩),.string ⟨#[63]⟩] W _):=λW hW=>pD hW hi ⟨#[63]⟩
   obtain⟨B1,dX⟩:∃B,B=ag T i ⟨#[93]⟩:=⟨_,rfl⟩
   obtain⟨B2,bZ⟩:∃B,B=ag T i ⟨#[58]⟩:=⟨_,rfl⟩
   obtain⟨B3,jW⟩:∃B,B=ag T i ⟨#[63]⟩:=⟨_,rfl⟩
   rw[<-dX]at pG⊢;rw[<-bZ]at mq⊢;rw[<-jW]at wM⊢;clear h b1 b1' hx ht fg k7 dX bZ jW q7;go_enter func248,ntmps248;go_wp2_with fail;refine O HI.o ?_;rintro e w1 ⟨rfl,ae⟩;go_wp2_with fail;refine O (HN.o w1 (HS.o.below ae)) ?_;rintro e w2 ⟨v,rfl,ah,hv,_⟩;rw[aI];have aY:=aa (ae.trans (ah.mono ae.size));clear ae ah;rcases hv with rfl|⟨tv,xv,rfl⟩
   all_goals
    go_wp2_with fail;refine O (pG.o w2 (HS.o.below aY.o)) ?_;rintro e w3 ⟨rfl,ap⟩;have bo:=aa (aY.o.trans (ap.mono aY.o.size));clear ap;cases B1
    .go_wp2_with fail;refine O (mq.o w3 (HS.o.below bo.o)) ?_;rintro e w4 ⟨rfl,aB⟩;have bq:=aa (bo.o.trans (aB.mono bo.o.size));clear aB;cases B2
     .go_wp2_with fail;refine O (wM.o w4 (HS.o.below bq.o)) ?_;rintro e w5 ⟨rfl,bP⟩;go_wp2_with fail;go_ret;exact⟨rfl,bq.o.trans (bP.mono bq.o.size)⟩
     .go_wp2_with fail;go_ret;exact⟨rfl,bq.o⟩
    .go_wp2_with fail;go_ret;exact⟨rfl,bo.o⟩
theorem akU(hp:dW T (fm T (bV T n) 3) n 26):dW T (DX T n) n 243:=by
 intro w b V g tc S i lg cv cs d hd cy h hi;have sc:=aa (akT h hi);have HS:=aa h;have aX:XX (∀W,ZS W b V T g tc S i d lg cv cs->_):=λW hW=>V7 hp W b V g tc S i lg cv cs d hd cy hW hi
 have gd:XX (∀W,ZS W b V T g tc S i d lg cv cs->_):=λW hW=>V9 hp W b V g tc S i lg cv cs d hd cy hW hi
 unfold DX;obtain⟨B,hB⟩:∃B,B=GJ T i:=⟨_,rfl⟩
 rw[<-hB]at sc⊢;unfold cK at aX gd⊢;clear h hp hB;cases B
 .rw[Ze (by simp)];go_enter func243,ntmps243;go_wp2_with fail;refine O sc.o ?_;rintro e w1 ⟨rfl,ae⟩;go_wp2_with fail;refine O (gd.o w1 (HS.o.below ae)) ?_;rintro e w2 ⟨x,er,i1,lg1,cv1,cs1,rfl,hx,bR,bC,ay,aU,aW⟩;go_wp2_with fail;go_ret2;exact⟨x,er,i1,lg1,cv1,cs1,rfl,hx,bR,(ZF.of_below ae (Zh _)).trans (bC.mono ae.size),ay,aU,aW.o.up ae.size⟩
 .rw[Zf rfl];go_enter func243,ntmps243;go_wp2_with fail;refine O sc.o ?_;rintro e w1 ⟨rfl,ae⟩;go_wp2_with fail;refine O (aX.o w1 (HS.o.below ae)) ?_;rintro e w2 ⟨x,er,i1,lg1,cv1,cs1,rfl,hx,bR,bC,ay,aU,aW⟩;go_wp2_with fail;go_ret2;exact⟨x,er,i1,lg1,cv1,cs1,rfl,hx,bR,(ZF.of_below ae (Zh _)).trans (bC.mono ae.size),ay,aU,aW.o.up ae.size⟩
end
def rT:Zj Zz:=[290,293,297,298,299,301]
def ol:Zj Zz:=rT++[289,287,284,286,65,291,303,277,244,179,173]
def uI(t:Zz)(v:Zk)(T:Zz)(z:Zk):Prop:=∀W,(Instr.typeAssert (.iface t v) 36 T Zg).run prog W=.ok (.tuple #[if t=T then v else z,.bool (decide (t=T))]) W
theorem ajg(ht:t∈ol)(v:Zk):uI t v 290 (.agg #[])/\uI t v 293 (.int .i64 0)/\uI t v 297 (.agg #[.bool Zb,.int .i64 0,.bool Zb,.int .i64 0,.int .i64 0])/\uI t v 298 (.agg #[])/\uI t v 299 (.agg #[])/\uI t v 301 (.agg #[.nilIface]):=by
 simp only[ol,rT,ZJ,ZK,ZB,ZC,ZE]at ht;rcases ht with rfl|rfl|rfl|rfl|rfl|rfl|rfl|rfl|rfl|rfl|rfl|rfl|rfl|rfl|rfl|rfl|rfl
 all_goals
  refine⟨λW=>?_,λW=>?_,λW=>?_,λW=>?_,λW=>?_,λW=>?_⟩
  all_goals kernel_rfl
theorem akO(ht:t∈ol)(v:Zk)(w:Zp):
 Zl prog 247 #[.iface t v] w λe w'=>e=.returned (if t∈rT then .iface 277 (.agg #[.iface t v,.slice Zd 0 0])else .iface t v)/\w'=w:=by
 have HA:=ajg ht v;unfold uI at HA;obtain⟨a1,a2,a3,a4,a5,a6⟩:=HA;clear ht;by_cases hs:t∈rT
 .rw[Zf hs];simp only[rT,ZB,ZC,ZE]at hs;rcases hs with rfl|rfl|rfl|rfl|rfl|rfl
  all_goals
   simp at a1 a2 a3 a4 a5 a6;go_enter func247,ntmps247;go_wp2;go_ret;exact⟨rfl,rfl⟩
 .rw[Ze hs];simp only[rT,ZB,ZC,ZE,not_or]at hs;obtain⟨s1,s2,s3,s4,s5,s6⟩:=hs;simp only[s1,s2,s3,s4,s5,s6,Zq,decide_false]at a1 a2 a3 a4 a5 a6;clear s1 s2 s3 s4 s5 s6;go_enter func247,ntmps247;go_wp2;go_ret;exact⟨rfl,rfl⟩
section
variable {w w':Zp} {b:Za} {V:Za->Prop} {T:Zj (aj×Za)} {g tc:Za} {S:Zw} {i:Za} {d:Zn} {lg:Zo} {cv cv':Zk} {cs:Zj Zk}
theorem iL.tag{op:Zy}{a:Za}{names:Zj Zy}{n0 n1 n2:Zn}{i0 i1 i2:Zo}{v:Option (VT 12)}{ps:Zj Zk}(h:iL w A op a s names n0 n1 n2 i0 i1 i2 v ps x):∃t y,x=.iface t y/\t∈ol/\decide (t∈rT)=ea tB op:=by
 cases h
 case pair ho=>
  refine⟨_,_,rfl,by decide,?_⟩;simp only[pr,ii,ZJ,ZK,ZB,ZC,ZE]at ho;rcases ho with rfl|rfl|rfl|rfl|rfl|rfl|rfl|rfl|rfl <;> decide
 all_goals exact⟨_,_,rfl,by decide,by decide⟩
def A9(r:Nd×Za):Nd×Za:=(if ea tB r.1.op then dn fa [r.1]else r.1,r.2)
def Ba(t:Zz)(v:Zk):Zk:=if t∈rT then .iface 277 (.agg #[.iface t v,.slice Zd 0 0])else .iface t v
theorem aaS(t:Zz)(v:Zk):∃t' v',Ba t v=.iface t' v':=by
 unfold Ba;by_cases h:t∈rT
 .rw[Zf h];exact⟨_,_,rfl⟩
 .rw[Ze h];exact⟨_,_,rfl⟩
theorem ZR.alone{er:Zk}(h:ZR (.ok r) w A S x er j lg lg' cs cs'):∃t v,x=.iface t v/\t∈ol/\ZR (.ok (A9 r)) w A S (Ba t v) er j lg lg' cs cs':=by
 have kP:NP w A r.1 x:=h.2.2.2.1;obtain⟨y,j'⟩:=r;cases y with
 |mk op a s names l n0 n1 n2 i0 i1 i2 v=>
  unfold NP at kP;obtain⟨ps,_,nB⟩:=kP;obtain⟨t,z,hx,ht,eo⟩:=nB.tag;subst hx;refine⟨t,z,rfl,ht,?_⟩;unfold Ba;by_cases hq:t∈rT
  .rw[decide_eq_true hq]at eo;rw[Zf hq,show A9 (Nd.mk op a s names l n0 n1 n2 i0 i1 i2 v,j')=(dn fa [Nd.mk op a s names l n0 n1 n2 i0 i1 i2 v],j')from congrArg (λq=>(q,j')) (Zf eo.symm)];exact ZR.wrap (op:=fa) (by decide) (by decide) (.chain ⟨Zp.ownsRow_nil _ _ _ _,λk hk=>by simp[Zk.ownBlock]at hk⟩) h
  .rw[ZL hq]at eo;rw[Ze hq,show A9 (Nd.mk op a s names l n0 n1 n2 i0 i1 i2 v,j')=(Nd.mk op a s names l n0 n1 n2 i0 i1 i2 v,j')from congrArg (λq=>(q,j')) (Ze (λe=>Zt (eo.trans e) (by decide)))];exact h
theorem abS{n':Za}(h:fm T (bV T n') 3 j=.ok r):uy T n' j=xK T ⟨#[41]⟩ (.ok (A9 r)):=by
 unfold uy Mw;rw[h]
 rfl
theorem ak1(hp:dW T (fm T (bV T n) 3) n 26):dW T (uy T n) n 242:=by
 intro w b V g tc S i lg cv cs d hd cy h hi;have HP:=aa (hp w b V g tc S i lg cv cs d hd cy h hi);have aV:=aa h.vb;have ed:b<w.heap.size:=al h.blk;have Wi:XX (∀t,t∈ol->∀v W,Zl prog 247 #[.iface t v] W λe w'=>e=.returned (Ba t v)/\w'=W):=λt ht v W=>akO ht v W
 obtain⟨R,hR⟩:∃R,R=fm T (bV T n) 3 i:=⟨_,rfl⟩
 rw[<-hR]at HP;unfold cK at HP⊢;clear h hp;cases R with
 |error p=>
  have HE:XX (uy T n i=.error p):=by show _=_;unfold uy;rw[<-hR];rfl
  obtain⟨RZ,fy⟩:∃RZ,RZ=uy T n i:=⟨_,rfl⟩
  rw[<-fy]at HE⊢;clear hR fy;go_enter func242,ntmps242;go_wp2_with fail;refine O HP.o ?_;rintro e w1 ⟨x,er,i1,lg1,cv1,cs1,rfl,hx,bR,bC,ay,aU,aW⟩;have hr:er=aG S p:=aW.o;subst hr;rw[aG];clear aW bR;go_wp2_with fail;go_ret2;exact⟨.nilIface,aG S p,i1,lg1,cv1,cs1,rfl,.inl rfl,nr _ _,bC,ay,aU,by rw[HE.o];exact rfl⟩
 |ok r=>
  have HE:=aa (abS hR.symm);obtain⟨RZ,fy⟩:∃RZ,RZ=uy T n i:=⟨_,rfl⟩
  rw[<-fy]at HE⊢;clear hR fy;go_enter func242,ntmps242;go_wp2_with fail;refine O HP.o ?_;rintro e w1 ⟨x,er,i1,lg1,cv1,cs1,rfl,hx,bR,bC,ay,aU,aW⟩;have he:er=.nilIface:=aW.o.1;have HJ:XX (i1=r.2):=aW.o.2.1;subst he;have HT:=aa (qk ay aU ⟨#[41]⟩);have gO:=aa bC;have HW:XX (∀W,ZS W b V T g tc S i1 d lg1 cv1 cs1->Zl prog 28 #[.pointer (Zc ⟨b,0,Zd⟩)] W λe w'=>e=.returned (aG S (bE T i1))/\Zm W.heap.size W w'):=λW hW=>uL hW aU
  have eu:XX (∀s,ag T i1 s=Zg->i1+1<T.length):=λs e=>ay.sgn_more aU e
  obtain⟨t,v,rfl,ht,zk⟩:=aW.o.alone;have HZ:=aa zk;have HTG:=aa ht;clear ay bC bR hx aW zk ht;by_cases b1:ag T i1 ⟨#[41]⟩=Zg
  .have dL:=eu.o _ b1;rw[b1]at HT;have aT:=aa b1;clear b1;go_wp2_with fail;refine O HT.o ?_;rintro e w2 ⟨rfl,aM,cB⟩;simp only[Zv]at cB;have HR:XX (ZR (xK T ⟨#[41]⟩ (.ok (A9 r))) w2 (λm=>(V m\/w.heap.size<=m)/\cv1.ownBlock≠Zc m) S (Ba t v) .nilIface (i1+1) lg lg1 cs cs1):=ZR.next rfl HZ.o aT.o (λk hk ai=>⟨aM.block k ai (by
    have:k≠b:=by rcases hk.1 with q|q;have:=aV.o k q;omega;omega
    simpa using this),hk⟩)
   have HF:=aa (gO.o.trans (ZF.of_but aM gO.o.size));clear aM;go_wp2_with fail;refine O (Wi.o t HTG.o v w2) ?_;rintro e w3 ⟨rfl,rfl⟩;obtain⟨t2,v2,th⟩:=aaS t v;rw[th]at HR⊢;clear th;go_wp2_with fail;go_ret2;exact⟨_,.nilIface,i1+1,lg1,cv1,cs1,rfl,.inr ⟨_,_,rfl⟩,.inl rfl,HF.o,cB,dL,by rw[HE.o];exact HR.o⟩
  .have aT:XX (ag T i1 ⟨#[41]⟩=Zg->False):=b1;rw[show ag T i1 ⟨#[41]⟩=Zb by simpa using b1]at HT;clear b1;go_wp2_with fail;refine O HT.o ?_;rintro e w2 ⟨rfl,aM,cB⟩;simp only[Zr,Zq]at cB;have HF:=aa (gO.o.trans (ZF.of_but aM gO.o.size));go_wp2_with fail;refine O (HW.o w2 cB) ?_;rintro e w3 ⟨rfl,ap⟩;rw[aG];go_wp2_with fail;go_ret2;refine⟨.nilIface,aG S (bE T i1),i1,lg1,cv1,cs1,rfl,.inl rfl,nr _ _,HF.o.trans (ZF.of_below ap HF.o.size),cB.below ap,aU,?_⟩;show ZR _ _ _ _ _ _ _ _ _ _ _;rw[HE.o,xK,gY,show(A9 r).2=i1 from HJ.o.symm,Ze aT.o]
   rfl
end
end Go.Proofs.YtdlgkgfeoiohiaaGreatDoor
