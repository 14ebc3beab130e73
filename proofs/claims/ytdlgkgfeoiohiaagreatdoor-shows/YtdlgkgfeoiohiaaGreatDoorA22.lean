/- Part 22. -/
import Derived.Test.YtdlgkgfeoiohiaaGreatDoorA20
open Bool renaming false -> Zc,true -> Zo
open Go renaming World -> Zl,Value -> Zp,Calls -> Zq
open Go.Calls renaming mono -> Zf
open Go.RowKit.Below renaming heap_setCell -> Zv,heap_alloc -> Zw,refl -> Zx
open Go.Value renaming ownBlock -> Zm,slice -> Zy
open Go.World renaming ownsRow_nil -> Zt,cell? -> Zz,setCell -> ZA
open Go.World.ownsRow renaming alloc -> ZD,lt -> ZE
open List renaming getElem?_eq_some_iff -> ZB
open Nat renaming le_refl -> Zn,add_zero -> ZC
open Option renaming none -> Za,some -> Zb
open Or renaming inr -> Ze,inl -> Zg
open _root_ renaming Nat -> O,List -> Zd,Int -> Zh,if_pos -> Zi,if_neg -> Zj,ByteArray -> Zk,Except -> Zr,decide_eq_false -> Zu
namespace Go.Proofs.YtdlgkgfeoiohiaaGreatDoor
set_option linter.unusedVariables false
set_option maxHeartbeats 16000000
set_option maxRecDepth 100000
open Go.RowKit J Tryz
variable {T:Zd (aj×O)}{w w' w5 w3 w4:Zl}{i j b f bad g cap nb k d a M n:O}{x y:Nd}{s op:Zk}{A V:O->Prop}{inn:bc}{l:Zd Nd}{p lsl v nsl:Zp}{ps:Zd Zp}{R:O->PR}{n0 n1 n2:Zh}{i0 i1 i2:Bool}{o:Obj}{thing:O->Zr O (Zd Zk×Nd×O)}{ks:Zd Zk}
theorem aJ.ptr(h:aJ w A x p):∃m,p=.pointer (Zb ⟨m,0,Za⟩)/\A m:=by
 cases x
 unfold aJ at h;obtain⟨m,nsl,lsl,ps,q,hp,hA,_⟩:=h;exact⟨m,hp,hA⟩
theorem gx.ptr(h:gx w M p):∃m,p=.pointer (Zb ⟨m,0,Za⟩)/\M<=m:=by
 obtain⟨m,op,a,s,nsl,lsl,n0,n1,n2,i0,i1,i2,v,hp,hM,hb⟩:=h;exact⟨m,hp,hM⟩
theorem Fm(hb:Below w.heap.size w w'):∀i o,A i->w.heap[i]?=Zb o->w'.heap[i]?=w.heap[i]?/\A i:=
 λi o hi ho=>⟨hb.block i (al ho),hi⟩
theorem uz(hb:ab b w w')(hA:∀m,A m->m≠b):∀i o,A i->w.heap[i]?=Zb o->w'.heap[i]?=w.heap[i]?/\A i:=
 λi o hi ho=>⟨hb.block i (al ho) (by intro e;injection e with e;exact hA i hi e),hi⟩
theorem ID(hs:cr w3 A l ps)(az:ps.length<=1000)(hA:∀m,w3.heap.size<=m->A m):
 aJ ((w3.alloc (.cells ps.toArray 68)).alloc (bH op 0 ⟨#[]⟩ (.slice Za 0 0) (.slice (Zb ⟨w3.heap.size,0,Za⟩) ps.length ps.length) 0 0 0 Zc Zc Zc (.pointer Za))) A (dn op l) (.pointer (Zb ⟨w3.heap.size+1,0,Za⟩)):=by
 unfold dn aJ;have hb:Below w3.heap.size w3 ((w3.alloc (.cells ps.toArray 68)).alloc (bH op 0 ⟨#[]⟩ (.slice Za 0 0) (.slice (Zb ⟨w3.heap.size,0,Za⟩) ps.length ps.length) 0 0 0 Zc Zc Zc (.pointer Za))):=((Zx _ w3).alloc (Zn _) _).alloc (by simp) _;refine⟨w3.heap.size+1,_,_,ps,Za,rfl,hA _ (by omega),aE (by simp),⟨Zt _ _ _ _,λg hg=>by simp[Zm]at hg⟩,⟨?_,λg hg=>?_⟩,cr.keep (Fm hb) _ _ hs,rfl⟩
 .exact ZD (wo w3 68 ps (by unfold maxLen;omega)) _
 .simp[Zm]at hg;subst hg;exact hA _ (Zn _)
theorem IE{q:Zp}(hx:aJ w A x p)(hy:aJ w A y q):cr w A [x,y] [p,q]:=by
 unfold cr;exact⟨p,[q],rfl,hx,by unfold cr;exact⟨q,[],rfl,hy,by unfold cr;rfl⟩⟩
theorem Ft(hx:aJ w A x p):cr w A [x] [p]:=by
 unfold cr;exact⟨p,[],rfl,hx,by unfold cr;rfl⟩
def A4(V:O->Prop)(b g cap:O)(T:Zd (aj×O))(i d:O)(w:Zl)(R:O->PR)(s:Zk)(res:PR)(gh:O)(xv:Zp)(wr:Zl):Prop:=
 ab b w wr/\((∃x j,ly T R s gh x j=res/\i<=j/\T.length<=j+gh/\ax wr V b g cap T j d (-1)/\aJ wr (λm=>V m\/w.heap.size<=m) x xv) \/
  (∃(bad j:O),res=.error bad/\ax wr V b g cap T j d (bad:Zh)/\gx wr w.heap.size xv))
theorem M9(h:ag T j s=Zc):ly T R s (f+1) x j=.ok (x,j):=by rw[ly,h];rfl
theorem M8(h:ag T j s=Zo)(hr:R (j+1)=.error bad):ly T R s (f+1) x j=.error bad:=by rw[ly,h,Zi rfl,hr]
theorem Na(h:ag T j s=Zo)(hr:R (j+1)=.ok (y,k)):ly T R s (f+1) x j=ly T R s f (dn s [x,y]) k:=by rw[ly,h,Zi rfl,hr]
theorem acf(V:O->Prop)(b g cap:O)(T:Zd (aj×O))(d:O)(hd:d<900)(R:O->PR)
 (eB:lS 59 #[.int .i64 1] V b g cap T d R):lS 59 #[.int .i64 0] V b g cap T d (iF T ⟨#[124]⟩ R):=by
 intro w i h hV;obtain⟨res,dD⟩:∃res,res=iF T ⟨#[124]⟩ R i:=⟨_,rfl⟩
 rw[<-dD];have eY:=aa dD;have aR:XX (b<w.heap.size):=al h.blk;have qV:=aa eB;have Oy:=aa (yX V b g cap T 1 (by omega));have nN:=aa h;have HV:=aa hV;have aV:XX (∀m,V m->m≠b):=h.v;clear h eB hV dD;go_enter func59,ntmps59;go_wp2_with fail;refine Zf (qV.o _ i (nN.o.alloc _) (λm hm=>by have:=HV.o m hm;simp;omega)) ?_;rintro e w2 ⟨p,rfl,ar,cP⟩;have hI:A4 V b g cap T i d w R ⟨#[124]⟩ res T.length p w2:=by
  refine⟨((ab.refl b w).alloc _).trans ar,?_⟩;rcases cP with⟨x,j,hx,ej,hp,hn⟩|⟨bad,j,hx,hp,hn⟩
  .refine Zg ⟨x,j,?_,ej,by omega,hp,aJ.keep (λk o hk ho=>⟨rfl,hk.imp_right λh=>by simp at h;omega⟩) _ _ hn.o⟩;rw[eY.o,iF,hx.o]
  .refine Ze ⟨bad,j,?_,hp,hn.o.keep (λk o hk ho=>⟨rfl,by simp at hk;omega⟩)⟩;rw[eY.o,iF,hx.o]
 have HI:=aa hI;clear ar cP hI;go_wp2_with fail;go_loopg [6] T.length (λgh xv wr=>A4 V b g cap T i d w R ⟨#[124]⟩ res gh xv wr)
 case atStart=>exact HI.o
 case round=>
  obtain⟨aM,cP⟩:=hrel;have dI:=aa aM;have tR:XX (w.heap.size<=wr.heap.size):=aM.size;clear aM;rcases cP with⟨x,j,hx,ej,jM,hp,hn⟩|⟨bad,j,hx,hp,hn⟩
  .obtain⟨m,rfl,hm⟩:=hn.ptr;obtain⟨f,rfl⟩:∃f,gk=f+1:=⟨gk-1,by have:=hp.il;omega⟩
   have HP:=aa hp;have HN:=aa hn;obtain⟨B,hB⟩:∃B,B=ag T j ⟨#[124]⟩:=⟨_,rfl⟩
   have HX:=aa hx;have ic:XX (ag T j ⟨#[124]⟩=B):=hB.symm;have HT:=aa (kH hp ⟨#[124]⟩ (B:=B) (by rw[hB];simp));clear hp hn hx hm hB;go_wp2_with fail;refine Zf HT.o ?_;rintro e w3 ⟨rfl,bi,bk⟩;have ge:=aa bk;have f9:=aa bi;have sp:XX (aJ w3 (λm=>V m\/w.heap.size<=m) x (.pointer (Zb ⟨m,0,Za⟩))):=aJ.keep (uz bi (λm hm=>by rcases hm with h|h;exact aV.o m h;have:=aR.o;omega)) _ _ HN.o;have Cj:wr.heap.size<=w3.heap.size:=bi.size;clear bi bk;cases B
   .go_wp2;go_ret;exact⟨_,rfl,dI.o.trans f9.o,Zg ⟨x,j,HX.o.symm.trans (M9 ic.o),ej,ge.o,sp.o⟩⟩
   .go_wp2_with fail;refine Zf (qV.o w3 (j+1) ge.o (λm hm=>by have:=HV.o m hm;have:=tR.o;omega)) ?_;rintro e w4 ⟨p4,rfl,eb,jg⟩;have za:ab b w3 w4/\∃m4,p4=.pointer (Zb ⟨m4,0,Za⟩):=by
     refine⟨eb,?_⟩;rcases jg with⟨y,j4,hy,j5,bg,bI⟩|⟨bad4,j4,hy,bg,bI⟩
     .obtain⟨m4,e4,_⟩:=bI.o.ptr;exact⟨m4,e4⟩
     .obtain⟨m4,e4,_⟩:=bI.o.ptr;exact⟨m4,e4⟩
    obtain⟨_,m4,rfl⟩:=za;have yt:=aa jg;have na:=aa eb;have oc:w3.heap.size<=w4.heap.size:=eb.size;clear jg eb;go_wp2;go_roundg f
    case measure=>omega
    case rel=>
     have zn:ab b w w4:=(dI.o.trans f9.o).trans na.o;have Rc:=tR.o;refine⟨(zn.alloc _).alloc _,?_⟩;rcases yt.o with⟨y,j4,hy,j5,bg,bI⟩|⟨bad4,j4,hy,bg,bI⟩
     .refine Zg ⟨dn ⟨#[124]⟩ [x,y],j4,?_,by omega,by omega,(bg.alloc _).alloc _,?_⟩
      .exact(Na ic.o hy.o).symm.trans HX.o
      .refine ID (ps:=[.pointer (Zb ⟨m,0,Za⟩),.pointer (Zb ⟨m4,0,Za⟩)]) (IE (aJ.keep (uz na.o (λm hm=>by rcases hm with h|h;exact aV.o m h;have:=aR.o;omega)) _ _ sp.o) (aJ.keep (λk o hk ho=>⟨rfl,hk.imp_right λh=>by omega⟩) _ _ bI.o)) (by simp) (λk hk=>Ze (by omega))
     .refine Ze ⟨bad4,j4,?_,(bg.alloc _).alloc _,?_⟩
      .exact HX.o.symm.trans (M8 ic.o hy.o)
      .exact⟨w4.heap.size+1,_,0,_,_,_,0,0,0,Zc,Zc,Zc,_,rfl,by omega,aE (by simp)⟩
  .obtain⟨m,rfl,hm⟩:=hn.ptr;have HP:=aa hp;have HN:=aa hn;have HX:=aa hx;clear hp hn hx hm;have hT:=λs'=>kH HP.o s' (B:=Zc) (by rw[Zu (by omega)];rfl)
   have HT:=aa hT;clear hT;go_wp2_with fail;refine Zf (HT.o _) ?_;rintro e w3 ⟨rfl,bi,bk⟩;have ge:=aa bk;have f9:=aa bi;clear bi bk;go_wp2;go_ret;exact⟨_,rfl,dI.o.trans f9.o,Ze ⟨bad,j,HX,ge.o,HN.o.but f9.o aR.o (Zn _)⟩⟩
theorem acg(V:O->Prop)(b g cap:O)(T:Zd (aj×O))(d:O)(hd:d<900)(R:O->PR)
 (eB:lS 59 #[.int .i64 2] V b g cap T d R):lS 59 #[.int .i64 1] V b g cap T d (iF T ⟨#[124,124]⟩ R):=by
 intro w i h hV;obtain⟨res,dD⟩:∃res,res=iF T ⟨#[124,124]⟩ R i:=⟨_,rfl⟩
 rw[<-dD];have eY:=aa dD;have aR:XX (b<w.heap.size):=al h.blk;have qV:=aa eB;have Oy:=aa (yX V b g cap T 2 (by omega));have nN:=aa h;have HV:=aa hV;have aV:XX (∀m,V m->m≠b):=h.v;clear h eB hV dD;go_enter func59,ntmps59;go_wp2_with fail;refine Zf (qV.o _ i (nN.o.alloc _) (λm hm=>by have:=HV.o m hm;simp;omega)) ?_;rintro e w2 ⟨p,rfl,ar,cP⟩;have hI:A4 V b g cap T i d w R ⟨#[124,124]⟩ res T.length p w2:=by
  refine⟨((ab.refl b w).alloc _).trans ar,?_⟩;rcases cP with⟨x,j,hx,ej,hp,hn⟩|⟨bad,j,hx,hp,hn⟩
  .refine Zg ⟨x,j,?_,ej,by omega,hp,aJ.keep (λk o hk ho=>⟨rfl,hk.imp_right λh=>by simp at h;omega⟩) _ _ hn.o⟩;rw[eY.o,iF,hx.o]
  .refine Ze ⟨bad,j,?_,hp,hn.o.keep (λk o hk ho=>⟨rfl,by simp at hk;omega⟩)⟩;rw[eY.o,iF,hx.o]
 have HI:=aa hI;clear ar cP hI;go_wp2_with fail;go_loopg [6] T.length (λgh xv wr=>A4 V b g cap T i d w R ⟨#[124,124]⟩ res gh xv wr)
 case atStart=>exact HI.o
 case round=>
  obtain⟨aM,cP⟩:=hrel;have dI:=aa aM;have tR:XX (w.heap.size<=wr.heap.size):=aM.size;clear aM;rcases cP with⟨x,j,hx,ej,jM,hp,hn⟩|⟨bad,j,hx,hp,hn⟩
  .obtain⟨m,rfl,hm⟩:=hn.ptr;obtain⟨f,rfl⟩:∃f,gk=f+1:=⟨gk-1,by have:=hp.il;omega⟩
   have HP:=aa hp;have HN:=aa hn;obtain⟨B,hB⟩:∃B,B=ag T j ⟨#[124,124]⟩:=⟨_,rfl⟩
   have HX:=aa hx;have ic:XX (ag T j ⟨#[124,124]⟩=B):=hB.symm;have HT:=aa (kH hp ⟨#[124,124]⟩ (B:=B) (by rw[hB];simp));clear hp hn hx hm hB;go_wp2_with fail;refine Zf HT.o ?_;rintro e w3 ⟨rfl,bi,bk⟩;have ge:=aa bk;have f9:=aa bi;have sp:XX (aJ w3 (λm=>V m\/w.heap.size<=m) x (.pointer (Zb ⟨m,0,Za⟩))):=aJ.keep (uz bi (λm hm=>by rcases hm with h|h;exact aV.o m h;have:=aR.o;omega)) _ _ HN.o;have Cj:wr.heap.size<=w3.heap.size:=bi.size;clear bi bk;cases B
   .go_wp2;go_ret;exact⟨_,rfl,dI.o.trans f9.o,Zg ⟨x,j,HX.o.symm.trans (M9 ic.o),ej,ge.o,sp.o⟩⟩
   .go_wp2_with fail;refine Zf (qV.o w3 (j+1) ge.o (λm hm=>by have:=HV.o m hm;have:=tR.o;omega)) ?_;rintro e w4 ⟨p4,rfl,eb,jg⟩;have za:ab b w3 w4/\∃m4,p4=.pointer (Zb ⟨m4,0,Za⟩):=by
     refine⟨eb,?_⟩;rcases jg with⟨y,j4,hy,j5,bg,bI⟩|⟨bad4,j4,hy,bg,bI⟩
     .obtain⟨m4,e4,_⟩:=bI.o.ptr;exact⟨m4,e4⟩
     .obtain⟨m4,e4,_⟩:=bI.o.ptr;exact⟨m4,e4⟩
    obtain⟨_,m4,rfl⟩:=za;have yt:=aa jg;have na:=aa eb;have oc:w3.heap.size<=w4.heap.size:=eb.size;clear jg eb;go_wp2;go_roundg f
    case measure=>omega
    case rel=>
     have zn:ab b w w4:=(dI.o.trans f9.o).trans na.o;have Rc:=tR.o;refine⟨(zn.alloc _).alloc _,?_⟩;rcases yt.o with⟨y,j4,hy,j5,bg,bI⟩|⟨bad4,j4,hy,bg,bI⟩
     .refine Zg ⟨dn ⟨#[124,124]⟩ [x,y],j4,?_,by omega,by omega,(bg.alloc _).alloc _,?_⟩
      .exact(Na ic.o hy.o).symm.trans HX.o
      .refine ID (ps:=[.pointer (Zb ⟨m,0,Za⟩),.pointer (Zb ⟨m4,0,Za⟩)]) (IE (aJ.keep (uz na.o (λm hm=>by rcases hm with h|h;exact aV.o m h;have:=aR.o;omega)) _ _ sp.o) (aJ.keep (λk o hk ho=>⟨rfl,hk.imp_right λh=>by omega⟩) _ _ bI.o)) (by simp) (λk hk=>Ze (by omega))
     .refine Ze ⟨bad4,j4,?_,(bg.alloc _).alloc _,?_⟩
      .exact HX.o.symm.trans (M8 ic.o hy.o)
      .exact⟨w4.heap.size+1,_,0,_,_,_,0,0,0,Zc,Zc,Zc,_,rfl,by omega,aE (by simp)⟩
  .obtain⟨m,rfl,hm⟩:=hn.ptr;have HP:=aa hp;have HN:=aa hn;have HX:=aa hx;clear hp hn hx hm;have hT:=λs'=>kH HP.o s' (B:=Zc) (by rw[Zu (by omega)];rfl)
   have HT:=aa hT;clear hT;go_wp2_with fail;refine Zf (HT.o _) ?_;rintro e w3 ⟨rfl,bi,bk⟩;have ge:=aa bk;have f9:=aa bi;clear bi bk;go_wp2;go_ret;exact⟨_,rfl,dI.o.trans f9.o,Ze ⟨bad,j,HX,ge.o,HN.o.but f9.o aR.o (Zn _)⟩⟩
theorem ach(V:O->Prop)(b g cap:O)(T:Zd (aj×O))(d:O)(hd:d<900)(R:O->PR)
 (eB:lS 59 #[.int .i64 3] V b g cap T d R):lS 59 #[.int .i64 2] V b g cap T d (iF T ⟨#[38,38]⟩ R):=by
 intro w i h hV;obtain⟨res,dD⟩:∃res,res=iF T ⟨#[38,38]⟩ R i:=⟨_,rfl⟩
 rw[<-dD];have eY:=aa dD;have aR:XX (b<w.heap.size):=al h.blk;have qV:=aa eB;have Oy:=aa (yX V b g cap T 3 (by omega));have nN:=aa h;have HV:=aa hV;have aV:XX (∀m,V m->m≠b):=h.v;clear h eB hV dD;go_enter func59,ntmps59;go_wp2_with fail;refine Zf (qV.o _ i (nN.o.alloc _) (λm hm=>by have:=HV.o m hm;simp;omega)) ?_;rintro e w2 ⟨p,rfl,ar,cP⟩;have hI:A4 V b g cap T i d w R ⟨#[38,38]⟩ res T.length p w2:=by
  refine⟨((ab.refl b w).alloc _).trans ar,?_⟩;rcases cP with⟨x,j,hx,ej,hp,hn⟩|⟨bad,j,hx,hp,hn⟩
  .refine Zg ⟨x,j,?_,ej,by omega,hp,aJ.keep (λk o hk ho=>⟨rfl,hk.imp_right λh=>by simp at h;omega⟩) _ _ hn.o⟩;rw[eY.o,iF,hx.o]
  .refine Ze ⟨bad,j,?_,hp,hn.o.keep (λk o hk ho=>⟨rfl,by simp at hk;omega⟩)⟩;rw[eY.o,iF,hx.o]
 have HI:=aa hI;clear ar cP hI;go_wp2_with fail;go_loopg [6] T.length (λgh xv wr=>A4 V b g cap T i d w R ⟨#[38,38]⟩ res gh xv wr)
 case atStart=>exact HI.o
 case round=>
  obtain⟨aM,cP⟩:=hrel;have dI:=aa aM;have tR:XX (w.heap.size<=wr.heap.size):=aM.size;clear aM;rcases cP with⟨x,j,hx,ej,jM,hp,hn⟩|⟨bad,j,hx,hp,hn⟩
  .obtain⟨m,rfl,hm⟩:=hn.ptr;obtain⟨f,rfl⟩:∃f,gk=f+1:=⟨gk-1,by have:=hp.il;omega⟩
   have HP:=aa hp;have HN:=aa hn;obtain⟨B,hB⟩:∃B,B=ag T j ⟨#[38,38]⟩:=⟨_,rfl⟩
   have HX:=aa hx;have ic:XX (ag T j ⟨#[38,38]⟩=B):=hB.symm;have HT:=aa (kH hp ⟨#[38,38]⟩ (B:=B) (by rw[hB];simp));clear hp hn hx hm hB;go_wp2_with fail;refine Zf HT.o ?_;rintro e w3 ⟨rfl,bi,bk⟩;have ge:=aa bk;have f9:=aa bi;have sp:XX (aJ w3 (λm=>V m\/w.heap.size<=m) x (.pointer (Zb ⟨m,0,Za⟩))):=aJ.keep (uz bi (λm hm=>by rcases hm with h|h;exact aV.o m h;have:=aR.o;omega)) _ _ HN.o;have Cj:wr.heap.size<=w3.heap.size:=bi.size;clear bi bk;cases B
   .go_wp2;go_ret;exact⟨_,rfl,dI.o.trans f9.o,Zg ⟨x,j,HX.o.symm.trans (M9 ic.o),ej,ge.o,sp.o⟩⟩
   .go_wp2_with fail;refine Zf (qV.o w3 (j+1) ge.o (λm hm=>by have:=HV.o m hm;have:=tR.o;omega)) ?_;rintro e w4 ⟨p4,rfl,eb,jg⟩;have za:ab b w3 w4/\∃m4,p4=.pointer (Zb ⟨m4,0,Za⟩):=by
     refine⟨eb,?_⟩;rcases jg with⟨y,j4,hy,j5,bg,bI⟩|⟨bad4,j4,hy,bg,bI⟩
     .obtain⟨m4,e4,_⟩:=bI.o.ptr;exact⟨m4,e4⟩
     .obtain⟨m4,e4,_⟩:=bI.o.ptr;exact⟨m4,e4⟩
    obtain⟨_,m4,rfl⟩:=za;have yt:=aa jg;have na:=aa eb;have oc:w3.heap.size<=w4.heap.size:=eb.size;clear jg eb;go_wp2;go_roundg f
    case measure=>omega
    case rel=>
     have zn:ab b w w4:=(dI.o.trans f9.o).trans na.o;have Rc:=tR.o;refine⟨(zn.alloc _).alloc _,?_⟩;rcases yt.o with⟨y,j4,hy,j5,bg,bI⟩|⟨bad4,j4,hy,bg,bI⟩
     .refine Zg ⟨dn ⟨#[38,38]⟩ [x,y],j4,?_,by omega,by omega,(bg.alloc _).alloc _,?_⟩
      .exact(Na ic.o hy.o).symm.trans HX.o
      .refine ID (ps:=[.pointer (Zb ⟨m,0,Za⟩),.pointer (Zb ⟨m4,0,Za⟩)]) (IE (aJ.keep (uz na.o (λm hm=>by rcases hm with h|h;exact aV.o m h;have:=aR.o;omega)) _ _ sp.o) (aJ.keep (λk o hk ho=>⟨rfl,hk.imp_right λh=>by omega⟩) _ _ bI.o)) (by simp) (λk hk=>Ze (by omega))
     .refine Ze ⟨bad4,j4,?_,(bg.alloc _).alloc _,?_⟩
      .exact HX.o.symm.trans (M8 ic.o hy.o)
      .exact⟨w4.heap.size+1,_,0,_,_,_,0,0,0,Zc,Zc,Zc,_,rfl,by omega,aE (by simp)⟩
  .obtain⟨m,rfl,hm⟩:=hn.ptr;have HP:=aa hp;have HN:=aa hn;have HX:=aa hx;clear hp hn hx hm;have hT:=λs'=>kH HP.o s' (B:=Zc) (by rw[Zu (by omega)];rfl)
   have HT:=aa hT;clear hT;go_wp2_with fail;refine Zf (HT.o _) ?_;rintro e w3 ⟨rfl,bi,bk⟩;have ge:=aa bk;have f9:=aa bi;clear bi bk;go_wp2;go_ret;exact⟨_,rfl,dI.o.trans f9.o,Ze ⟨bad,j,HX,ge.o,HN.o.but f9.o aR.o (Zn _)⟩⟩
def qw(V:O->Prop)(b g cap:O)(T:Zd (aj×O))(d:O):bc->Prop
 |none=>d=12
 |some f=>d<12/\lS 96 #[] V b g cap T (d+1) f.1/\lS 59 #[.int .i64 0] V b g cap T (d+1) f.2
theorem ax.deep{d':O}{bad:Zh}(h:ax w V b g cap T i d bad)(hd:d'<=1000):ax (w.setCell ⟨b,2,Za⟩ (.int .i64 d')) V b g cap T i d' bad:=
 h.to ((ab.refl b w).setCell _ _) (GU h.blk d') h.il hd h.bad1
theorem IC(hn:w3.heap.size=n)(hs:cr w3 A l ps)(az:ps.length<=1000)(hA:∀m,n<=m->A m):
 aJ ((w3.alloc (.cells ps.toArray 68)).alloc (bH op 0 ⟨#[]⟩ (.slice Za 0 0) (.slice (Zb ⟨n,0,Za⟩) ps.length ps.length) 0 0 0 Zc Zc Zc (.pointer Za))) A (dn op l) (.pointer (Zb ⟨n+1,0,Za⟩)):=by
 subst hn;exact ID hs az hA
theorem acb(V:O->Prop)(b g cap:O)(T:Zd (aj×O))(d:O)(inn:bc)(hinn:qw V b g cap T d inn)(w:Zl)(i:O)(h:ax w V b g cap T i d (-1))(hV:∀m,V m->m<w.heap.size)(hs:ag T i jk=Zo):
 Zq prog 96 #[.pointer (Zb ⟨b,0,Za⟩)] w λe w'=>∃p,e=.returned p/\ab b w w' /\
 (
  (∃x j,XX (fA T inn i=.ok (x,j))/\i<=j/\ax w' V b g cap T j d (-1)/\XX (aJ w' (λm=>V m\/w.heap.size<=m) x p)) \/
  (∃(bad:O) (j:O),XX (fA T inn i=.error bad)/\ax w' V b g cap T j d (bad:Zh)/\XX (gx w' w.heap.size p))):=by
 have hS:=l6 h 0 (by omega) jk;rw[show(decide ((-1:Zh)<0)&&ag T (i+0) jk)=Zo by rw[ZC,hs];rfl]at hS;have HS:=aa hS;have aR:XX (b<w.heap.size):=al h.blk;have aV:XX (∀m,V m->m≠b):=h.v;have HV:=aa hV;have kl:=tz h hs;cases inn with
 |none=>
  have hd:d=12:=hinn;subst hd;have HD:=aa (Qj h);have HR:XX (fA T Za i=.error (bE T i)):=by show _=_;rw[fA,hs];rfl
  clear h hS hs hinn hV;go_enter func96,ntmps96;go_wp2_with fail;refine Zf HS.o ?_;rintro e w1 ⟨rfl,rfl⟩;go_wp2_with fail;refine Zf HD.o ?_;rintro e w2 ⟨rfl,ce,bb⟩;have lE:=aa ce;have HF:=aa (Qp V b g cap T w2 i 13 _ bb (by omega) (by omega));have lO:w1.heap.size<=w2.heap.size:=ce.size;clear ce bb;go_wp2_with fail;refine Zf HF.o ?_;rintro e w3 ⟨p,rfl,bi,bk,uo⟩;obtain⟨m,rfl,hm⟩:=uo.o.ptr;obtain⟨g0,g1,g2,g3,gf⟩:=gE bk.blk;have f9:=aa bi;have ge:=aa bk;have Cj:w2.heap.size<=w3.heap.size:=bi.size;clear bi bk uo hm g0 g1 g3;go_wp2;go_ret;refine⟨_,rfl,(((lE.o.trans f9.o).setCell 2 (.int .i64 ((12:O):Zh))).alloc _).alloc _,Ze ⟨bE T i,i,HR,((ge.o.deep (d':=12) (by omega)).alloc _).alloc _,?_⟩⟩;exact⟨w3.heap.size+1,_,0,_,_,_,0,0,0,Zc,Zc,Zc,_,rfl,by omega,aE (by simp)⟩
 |some f=>
  obtain⟨hd,eB,_⟩:=hinn;have HD:=aa (Qk h hd kl);have qV:=aa eB;have Gi:XX (∀bad,f.1 (i+1)=.error bad->fA T (Zb f) i=.error bad):=λbad hb=>by rw[fA,hs,Zi rfl,hb]
  have iK:XX (∀x j,f.1 (i+1)=.ok (x,j)->fA T (Zb f) i=.ok (dn jk [x],j)):=λx j hb=>by rw[fA,hs,Zi rfl,hb]
  clear h hS hs hV eB;go_enter func96,ntmps96;go_wp2_with fail;refine Zf HS.o ?_;rintro e w1 ⟨rfl,rfl⟩;go_wp2_with fail;refine Zf HD.o ?_;rintro e w2 ⟨rfl,ce,bb⟩;have lE:=aa ce;have lO:w1.heap.size<=w2.heap.size:=ce.size;have HF:=aa (qV.o w2 (i+1) bb (λm hm=>by have:=HV.o m hm;omega));clear ce bb;go_wp2_with fail;refine Zf HF.o ?_;rintro e w3 ⟨p,rfl,bi,cP⟩;have hI:(∃m,p=.pointer (Zb ⟨m,0,Za⟩))/\∃j bad,ax w3 V b g cap T j (d+1) bad:=by
   rcases cP with⟨y,j4,hy,j5,bg,bI⟩|⟨bad4,j4,hy,bg,bI⟩
   .obtain⟨m4,e4,_⟩:=bI.o.ptr;exact⟨⟨m4,e4⟩,_,_,bg⟩
   .obtain⟨m4,e4,_⟩:=bI.o.ptr;exact⟨⟨m4,e4⟩,_,_,bg⟩
  obtain⟨⟨m,rfl⟩,j',bad',bk⟩:=hI;obtain⟨g0,g1,g2,g3,gf⟩:=gE bk.blk;have f9:=aa bi;have qY:=aa cP;have Cj:w2.heap.size<=w3.heap.size:=bi.size;clear bi bk cP g0 g1 g3;go_wp2;go_ret;refine⟨_,rfl,(((lE.o.trans f9.o).setCell 2 (.int .i64 (d:Zh))).alloc _).alloc _,?_⟩;rcases qY.o with⟨y,j4,hy,j5,bg,bI⟩|⟨bad4,j4,hy,bg,bI⟩
  .refine Zg ⟨dn jk [y],j4,iK.o _ _ hy.o,by omega,((bg.deep (d':=d) (by omega)).alloc _).alloc _,?_⟩;have hb:ab b w3 (w3.setCell ⟨b,2,Za⟩ (.int .i64 (d:Zh))):=(ab.refl b w3).setCell _ _;have hn:aJ (w3.setCell ⟨b,2,Za⟩ (.int .i64 (d:Zh))) (λm=>V m\/w1.heap.size<=m) y (.pointer (Zb ⟨m,0,Za⟩)):=
    aJ.keep (λk o hk ho=>⟨hb.block k (al ho) (by intro e;injection e with e;subst e;rcases hk with h|h;exact aV.o _ h rfl;have:=aR.o;omega),hk.imp_right λh=>by omega⟩) _ _ bI.o
   show aJ _ _ _ _;exact IC (n:=w3.heap.size) (ps:=[.pointer (Zb ⟨m,0,Za⟩)]) (by simp[ZA]) (Ft hn) (by simp) (λk hk=>Ze (by omega))
  .refine Ze ⟨bad4,j4,Gi.o _ hy.o,((bg.deep (d':=d) (by omega)).alloc _).alloc _,?_⟩;exact⟨w3.heap.size+1,_,0,_,_,_,0,0,0,Zc,Zc,Zc,_,rfl,by omega,aE (by simp)⟩
theorem PX{l:Zd Zk}(hk:l[k]?=Zb s):ln T j (l.drop k)=if ag T j s then Zb s else ln T j (l.drop (k+1)):=by
 have ai:=(ZB.1 hk).1;have he:=(ZB.1 hk).2;rw[Zd.drop_eq_getElem_cons ai,ln,he]
def On(V:O->Prop)(b g cap:O)(T:Zd (aj×O))(i d:O)(w:Zl)(R:O->PR)(m:O)(k:O)(wr:Zl):Prop:=
 ab b w wr/\((∃x j,R i=.ok (x,j)/\i<=j/\ln T j ii=ln T j (ii.drop k)/\ax wr V b g cap T j d (-1)/\aJ wr (λm=>V m\/w.heap.size<=m) x (.pointer (Zb ⟨m,0,Za⟩))) \/
  (∃(bad j:O),R i=.error bad/\ax wr V b g cap T j d (bad:Zh)/\gx wr w.heap.size (.pointer (Zb ⟨m,0,Za⟩))))
theorem Tx(hs:ag T i jk=Zc)(h:fb T inn i=.error bad):fA T inn i=.error bad:=by unfold fA;rw[hs,Zj (by simp),h]
theorem agu(hs:ag T i jk=Zc)(h:fb T inn i=.ok (x,j))(hc:ln T j ii=Za):fA T inn i=.ok (x,j):=by unfold fA;rw[hs,Zj (by simp),h];simp only;rw[hc]
theorem agv(hs:ag T i jk=Zc)(h:fb T inn i=.ok (x,j))(hc:ln T j ii=Zb s)(hy:fb T inn (j+1)=.ok (y,k)):fA T inn i=.ok (dn s [x,y],k):=by unfold fA;rw[hs,Zj (by simp),h];simp only;rw[hc];simp only;rw[hy]
theorem ags(hs:ag T i jk=Zc)(h:fb T inn i=.ok (x,j))(hc:ln T j ii=Zb s)(hy:fb T inn (j+1)=.error bad):fA T inn i=.error bad:=by unfold fA;rw[hs,Zj (by simp),h];simp only;rw[hc];simp only;rw[hy]
theorem acd(V:O->Prop)(b g cap:O)(T:Zd (aj×O))(d:O)(hd:d<900)(inn:bc)(oF:lS 150 #[] V b g cap T d (fb T inn))(w:Zl)(i:O)(h:ax w V b g cap T i d (-1))(hV:∀m,V m->m<w.heap.size)(hs:ag T i jk=Zc):
 Zq prog 96 #[.pointer (Zb ⟨b,0,Za⟩)] w λe w'=>∃p,e=.returned p/\ab b w w' /\
 (
  (∃x j,XX (fA T inn i=.ok (x,j))/\i<=j/\ax w' V b g cap T j d (-1)/\XX (aJ w' (λm=>V m\/w.heap.size<=m) x p)) \/
  (∃(bad:O) (j:O),XX (fA T inn i=.error bad)/\ax w' V b g cap T j d (bad:Zh)/\XX (gx w' w.heap.size p))):=by
 have hS:=l6 h 0 (by omega) jk;rw[show(decide ((-1:Zh)<0)&&ag T (i+0) jk)=Zc by rw[ZC,hs];rfl]at hS;have HS:=aa hS;have aR:XX (b<w.heap.size):=al h.blk;have aV:XX (∀m,V m->m≠b):=h.v;have HV:=aa hV;have HF:=aa (oF w i h hV);have Dd:=aa oF;obtain⟨R,hR⟩:∃R,R=fb T inn:=⟨_,rfl⟩
 have HR:XX (fb T inn=R):=hR.symm;have DE:=aa hs;clear h hS hV oF hs hR;go_enter func96,ntmps96;go_wp2_with fail;refine Zf HS.o ?_;rintro e w1 ⟨rfl,rfl⟩;go_wp2_with fail;refine Zf HF.o ?_;rintro e w2 ⟨p,rfl,ar,cP⟩;have hI:∃m,p=.pointer (Zb ⟨m,0,Za⟩)/\b<w2.heap.size/\∀o,On V b g cap T i d w1 (fb T inn) m 0 (w2.alloc o):=by
  rcases cP with⟨y,j4,hy,j5,bg,bI⟩|⟨bad4,j4,hy,bg,bI⟩
  .obtain⟨m4,e4,_⟩:=bI.o.ptr;subst e4;exact⟨m4,rfl,al bg.blk,λo=>⟨ar.alloc _,Zg ⟨y,j4,hy.o,j5,rfl,bg.alloc _,aJ.keep (Fm ((Zx _ w2).alloc (Zn _) _)) _ _ bI.o⟩⟩⟩
  .obtain⟨m4,e4,_⟩:=bI.o.ptr;subst e4;exact⟨m4,rfl,al bg.blk,λo=>⟨ar.alloc _,Ze ⟨bad4,j4,hy.o,bg.alloc _,bI.o.keep (Fm ((Zx _ w2).alloc (Zn _) _))⟩⟩⟩
 obtain⟨m,rfl,mG,hI⟩:=hI;have HI:=aa hI;have lO:w1.heap.size<=w2.heap.size:=ar.size;clear ar cP hI;go_wp2_with fail;go_loopg [7] 6 (λgh iv wr=>∃k:O,k<=6/\gh=6-k/\iv=.int .i64 k/\On V b g cap T i d w1 (fb T inn) m k wr/\ao wr 9 (.slice (Zb ⟨w2.heap.size,0,Za⟩) 6 6) (kv ii))
 case atStart=>exact⟨0,by omega,rfl,rfl,HI.o _,wo w2 9 (kv ii) (by decide)⟩
 case round=>
  obtain⟨k,hk,EU,rfl,qG,aO⟩:=hrel;have Gc:=aa EU;have dT:=aa aO;obtain⟨aM,cP⟩:=qG;have lE:=aa aM;have qY:=aa cP;have vV:w1.heap.size<=wr.heap.size:=aM.size;clear aM EU aO cP HI;by_cases mO:k<6
  .obtain⟨s',xB⟩:∃s',ii[k]?=Zb s':=⟨ii[k]'mO,Zd.getElem?_eq_getElem mO⟩
   have ck:wr.cell? ⟨w2.heap.size,k,Za⟩=Zb (.string s'):=ao.get dT.o (by simp[kv,xB]);have HK:=aa xB;have k1:(k:Zh)<6:=by omega
   clear xB mO;rcases qY.o with⟨x,j,hx,ej,oG,hp,hn⟩|⟨bad,j,hx,hp,hn⟩
   .obtain⟨B,hB⟩:∃B,B=ag T j s':=⟨_,rfl⟩
    have HB:XX (ag T j s'=B):=hB.symm;have HX:=aa hx;have yh:=aa oG;have HN:=aa hn;have HT:=aa (kH hp s' (B:=B) (by rw[hB];simp));clear hx oG hn hp hB;go_wp2_with fail;refine Zf HT.o ?_;rintro e w3 ⟨rfl,bi,bk⟩;have ge:=aa bk;have f9:=aa bi;have Cj:wr.heap.size<=w3.heap.size:=bi.size;have sp:XX (aJ w3 (λm=>V m\/w1.heap.size<=m) x (.pointer (Zb ⟨m,0,Za⟩))):=aJ.keep (uz bi (λm hm=>by rcases hm with h|h;exact aV.o m h;have:=aR.o;omega)) _ _ HN.o;have Gj:XX (ao w3 9 (.slice (Zb ⟨w2.heap.size,0,Za⟩) 6 6) (kv ii)):=ao.same dT.o (λj hj=>bi.block j (ao.lt dT.o hj) (by simp[Zm]at hj;simp;omega));have ck3:w3.cell? ⟨w2.heap.size,k,Za⟩=Zb (.string s'):=ao.get Gj.o (by simp[kv,HK.o]);clear bi bk ck;cases B
    .go_wp2;go_roundg (6-(k+1))
     case measure=>rw[Gc.o];omega
     case rel=>
      exact⟨k+1,by omega,rfl,by go_num,⟨lE.o.trans f9.o,Zg ⟨x,j,HX.o,ej,by rw[yh.o,PX HK.o,HB.o];rfl,ge.o,sp.o⟩⟩,Gj.o⟩
    .have HC:XX (ln T j ii=Zb s'):=by show _=_;rw[yh.o,PX HK.o,HB.o];rfl
     have lW:=aa (Dd.o w3 (j+1) ge.o (λm hm=>by have:=HV.o m hm;omega));go_wp2_with fail;refine Zf lW.o ?_;rintro e w4 ⟨p4,rfl,eb,jg⟩;have za:∃m4,p4=.pointer (Zb ⟨m4,0,Za⟩):=by
      rcases jg with⟨y,j4,hy,j5,bg,bI⟩|⟨bad4,j4,hy,bg,bI⟩
      .obtain⟨m4,e4,_⟩:=bI.o.ptr;exact⟨m4,e4⟩
      .obtain⟨m4,e4,_⟩:=bI.o.ptr;exact⟨m4,e4⟩
     obtain⟨m4,rfl⟩:=za;have yt:=aa jg;have na:=aa eb;have oc:w3.heap.size<=w4.heap.size:=eb.size;have AN:XX (ao w4 9 (.slice (Zb ⟨w2.heap.size,0,Za⟩) 6 6) (kv ii)):=ao.same Gj.o (λj hj=>eb.block j (ao.lt Gj.o hj) (by simp[Zm]at hj;simp;omega));have ck4:w4.cell? ⟨w2.heap.size,k,Za⟩=Zb (.string s'):=ao.get AN.o (by simp[kv,HK.o]);clear jg eb ck3;go_wp2;go_ret;have zn:ab b w1 w4:=(lE.o.trans f9.o).trans na.o;refine⟨_,rfl,(zn.alloc _).alloc _,?_⟩;rcases yt.o with⟨y,j4,hy,j5,bg,bI⟩|⟨bad4,j4,hy,bg,bI⟩
     .refine Zg ⟨dn s' [x,y],j4,agv DE.o HX.o HC.o hy.o,by omega,(bg.alloc _).alloc _,?_⟩;show aJ _ _ _ _;exact IC (n:=w4.heap.size) (ps:=[.pointer (Zb ⟨m,0,Za⟩),.pointer (Zb ⟨m4,0,Za⟩)]) rfl (IE (aJ.keep (uz na.o (λm hm=>by rcases hm with h|h;exact aV.o m h;have:=aR.o;omega)) _ _ sp.o) (aJ.keep (λk o hk ho=>⟨rfl,hk.imp_right λh=>by omega⟩) _ _ bI.o)) (by simp) (λk hk=>Ze (by omega))
     .refine Ze ⟨bad4,j4,ags DE.o HX.o HC.o hy.o,(bg.alloc _).alloc _,?_⟩;exact⟨w4.heap.size+1,_,0,_,_,_,0,0,0,Zc,Zc,Zc,_,rfl,by omega,aE (by simp)⟩
   .have HX:=aa hx;have HN:=aa hn;have HT:=aa (kH hp s' (B:=Zc) (by rw[Zu (by omega)];rfl));clear hx hn hp;go_wp2_with fail;refine Zf HT.o ?_;rintro e w3 ⟨rfl,bi,bk⟩;have ge:=aa bk;have f9:=aa bi;clear bi bk ck;go_wp2;go_roundg (6-(k+1))
    case measure=>rw[Gc.o];omega
    case rel=>
     exact⟨k+1,by omega,rfl,by go_num,⟨lE.o.trans f9.o,Ze ⟨bad,j,HX.o,ge.o,HN.o.but f9.o aR.o (Zn _)⟩⟩,ao.same dT.o (λj hj=>f9.o.block j (ao.lt dT.o hj) (by simp[Zm]at hj;simp;omega))⟩
  .have k1:¬((k:Zh)<6):=by omega
   have jo:k=6:=by omega
   subst jo;clear mO;go_wp2;go_ret;refine⟨_,rfl,lE.o,?_⟩;rcases qY.o with⟨x,j,hx,ej,oG,hp,hn⟩|⟨bad,j,hx,hp,hn⟩
   .exact Zg ⟨x,j,agu DE.o hx oG,ej,hp,hn⟩
   .first|exact Ze ⟨bad,j,Tx DE.o hx,hp,hn⟩|exact Ze ⟨bad,Tx DE.o hx,⟨j,hp⟩,hn⟩
theorem Qq(V:O->Prop)(b g cap:O)(T:Zd (aj×O))(d:O)(hd:d<900)(inn:bc)(hinn:qw V b g cap T d inn)(oF:lS 150 #[] V b g cap T d (fb T inn)):lS 96 #[] V b g cap T d (fA T inn):=by
 intro w i h hV;cases hs:ag T i jk with
 |true=>exact acb V b g cap T d inn hinn w i h hV hs
 |false=>exact acd V b g cap T d hd inn oF w i h hV hs
theorem acj(V:O->Prop)(b g cap:O)(T:Zd (aj×O))(d:O)(R:O->PR)(eB:lS 96 #[] V b g cap T d R):lS 59 #[.int .i64 3] V b g cap T d R:=by
 intro w i h hV;have HF:=aa (eB w i h hV);obtain⟨res,dD⟩:∃res,res=R i:=⟨_,rfl⟩
 clear h eB hV;go_enter func59,ntmps59;go_wp2_with fail;refine Zf HF.o ?_;rintro e w2 ⟨p,rfl,ar,cP⟩;have dI:=aa ar;have qY:=aa cP;clear ar cP;go_wp2;go_ret;exact⟨_,rfl,dI.o,qY.o⟩
theorem Qt(V:O->Prop)(b g cap:O)(T:Zd (aj×O))(d:O)(hd:d<900)(inn:bc)(hinn:qw V b g cap T d inn)(oF:lS 150 #[] V b g cap T d (fb T inn)):lS 59 #[.int .i64 0] V b g cap T d (fm T inn 3):=
 acf V b g cap T d hd _ (acg V b g cap T d hd _ (ach V b g cap T d hd _ (acj V b g cap T d _ (Qq V b g cap T d hd inn hinn oF))))
theorem Ao{t:aj}(h:T[i]?=Zb (t,a)):bp T i=t/\bE T i=a:=by simp[bp,bE,h]
theorem Cs{v:Option (VT 12)}{q:Option Addr}(hn:w.heap.size=n)(hA:A n)(hv:OV w A v q):
 aJ (w.alloc (bH op a s (.slice Za 0 0) (.slice Za 0 0) n0 n1 n2 i0 i1 i2 (.pointer q))) A (.mk op a s [] [] n0 n1 n2 i0 i1 i2 v) (.pointer (Zb ⟨n,0,Za⟩)):=by
 unfold aJ;refine⟨n,_,_,[],q,rfl,hA,aE hn,⟨Zt _ _ _ _,λg hg=>by simp[Zm]at hg⟩,⟨Zt _ _ _ _,λg hg=>by simp[Zm]at hg⟩,by unfold cr;rfl,hv.keep (Fm ((Zx _ w).alloc (Zn _) _))⟩
theorem zR:(prog.info? 68).map (λi=>(i.zero,i.size,i.bytes))=Zb (Zb (.pointer Za),1,8):=by kernel_rfl
structure mt(V:O->Prop)(M nb:O)(lsl:Zp)(l:Zd Nd)(ps:Zd Zp)(wr:Zl):Prop where
 row:ao wr 68 lsl ps
 own:∀g,lsl.ownBlock=Zb g->M<=g/\g≠nb
 refs:cr wr (λm=>(V m\/M<=m)/\m≠nb/\lsl.ownBlock≠Zb m) l ps
theorem mt.nil(V:O->Prop)(M nb:O)(wr:Zl):mt V M nb (.slice Za 0 0) [] [] wr:=
 ⟨Zt _ _ _ _,λg hg=>by simp[Zm]at hg,by unfold cr;rfl⟩
theorem mt.but{wr:Zl}(h:mt V M nb lsl l ps wr)(hb:ab b wr w')(hbM:b<M)(hVb:∀m,V m->m≠b):mt V M nb lsl l ps w':=
 ⟨ao.same h.row (λk hk=>hb.block k (ao.lt h.row hk) (by intro e;injection e with e;have:=(h.own k hk).1;omega)),h.own,
  cr.keep (λk o hk ho=>⟨hb.block k (al ho) (by intro e;injection e with e;rcases hk.1 with h|h;exact hVb k h e;omega),hk⟩) _ _ h.refs⟩
theorem mt.app{M4:O}{val:Zp}(h:mt V M nb lsl l ps w4)(hy:aJ w4 (λm=>V m\/M4<=m) y p)
 (h1:nb<M4) (h2:∀g,lsl.ownBlock=Zb g->g<M4) (h3:M<=M4) (hV:∀m,V m->m<M) (h4:M<=nb) (h5:M4<=w4.heap.size) (an:(w4.alloc o).grownBy w5 lsl.ownBlock) (aO:ao w5 68 (.slice (Zb ⟨g,0,Za⟩) n cap) (ps++[p]))
 (hg:lsl.ownBlock=Zb g\/g=w4.heap.size+1):mt V M nb (.slice (Zb ⟨g,0,Za⟩) n cap) (l++[y]) (ps++[p]) (w5.setCell ⟨nb,4,Za⟩ val):=by
 have iB:M<=g/\g≠nb:=by
  rcases hg with hg|hg
  .exact h.own g hg
  .omega
 have key:∀m o',((V m\/M<=m)/\m≠nb/\lsl.ownBlock≠Zb m)->w4.heap[m]?=Zb o'->(w5.setCell ⟨nb,4,Za⟩ val).heap[m]?=w4.heap[m]?/\((V m\/M<=m)/\m≠nb/\(Zy (Zb ⟨g,0,Za⟩) n cap).ownBlock≠Zb m):=by
  intro m o' ⟨a1,a2,a3⟩ ho;have hm:=al ho;refine⟨?_,a1,a2,?_⟩
  .rw[Zv _ _ _ _ (by simpa using a2),an.block m (by simp;omega) (λe=>a3 e.symm)];exact Zw _ _ _ hm
  .intro e;have e:g=m:=by simpa[Zm]using e
   subst e;rcases hg with hg|hg
   .exact a3 hg
   .omega
 refine⟨ao.same aO (λk hk=>?_),?_,cr.snoc (aJ.keep ?_ _ _ hy) (cr.keep key _ _ h.refs)⟩
 .have e:g=k:=by simpa[Zm]using hk
  subst e;exact Zv _ _ _ _ (by simpa using iB.2)
 .intro k hk;have e:g=k:=by simpa[Zm]using hk
  subst e;exact iB
 .intro m o' hm ho;refine key m o' ⟨hm.imp_right λh=>by omega,?_,?_⟩ ho
  .rcases hm with h|h
   .have:=hV m h;omega
   .omega
  .intro e;have h6:=h2 m e;have h7:=(h.own m e).1;rcases hm with h|h
   .have:=hV m h;omega
   .omega
theorem kU(hb:w.heap[nb]?=Zb (bH op a s nsl lsl n0 n1 n2 i0 i1 i2 v)):
 w.cell? ⟨nb,0,Za⟩=Zb (.string op)/\w.cell? ⟨nb,3,Za⟩=Zb nsl/\w.cell? ⟨nb,4,Za⟩=Zb lsl/\∀o,w.frozen? ⟨nb,o,Za⟩=Zc:=by
 unfold bH at hb;refine⟨?_,?_,?_,?_⟩
 .simp[Zz,hb]
 .simp[Zz,hb]
 .simp[Zz,hb]
 .intro o;simp[Zl.frozen?,hb]
theorem IG(hb:w.heap[nb]?=Zb (bH op a s nsl lsl n0 n1 n2 i0 i1 i2 v))(lsl':Zp):
 (w.setCell ⟨nb,4,Za⟩ lsl').heap[nb]?=Zb (bH op a s nsl lsl' n0 n1 n2 i0 i1 i2 v):=cY hb _
def zU(T:Zd (aj×O))(inn:bc)(i:O):Zr O (Zd Zk×Zd Nd×O):=match inn with
 |none=>.error (bE T i)
 |some f=>dY T (kn f.2) T.length [] [] (i+1)
def Gt(V:O->Prop)(b g cap:O)(T:Zd (aj×O))(i d:O)(P:Prop)(w:Zl)(nb:O)(thing:O->Zr O (Zd Zk×Nd×O))(res:Zr O (Zd Zk×Zd Nd×O))(gh:O)(more:Bool)(wr:Zl):Prop:=
 ab b w wr/\nb<wr.heap.size/\∃lsl l ps,wr.heap[nb]?=Zb (bH m8 0 ⟨#[]⟩ (.slice Za 0 0) lsl 0 0 0 Zc Zc Zc (.pointer Za))/\ps.length+gh<=T.length+1 /\
  (
   ((∃j,P/\ax wr V b g cap T j (d+1) (-1)/\mt V w.heap.size nb lsl l ps wr/\i<j/\(if more then dY T thing gh [] l j=res/\T.length<=j+gh else res=.ok ([],l,j)))) \/
   (∃(bad j:O),res=.error bad/\(more=Zo->1<=gh)/\ax wr V b g cap T j (d+1) (bad:Zh)/\ao wr 68 lsl ps/\(∀g,lsl.ownBlock=Zb g->w.heap.size<=g/\g≠nb)))
def zV(inn:bc):O->Zr O (Zd Zk×Nd×O):=match inn with
 |none=>λ_=>.error 0
 |some f=>kn f.2
theorem Ea(hinn:qw V b g cap T d inn)(h:ax w V b g cap T i d (-1))(hi:i+1<T.length):
 Zq prog 149 #[.pointer (Zb ⟨b,0,Za⟩)] w λe w'=>e=.returned (.tuple #[])/\ab b w w'/\XX (match inn with
  |none=>ax w' V b g cap T i (d+1) (bE T i:O)
  |some _=>ax w' V b g cap T (i+1) (d+1) (-1)):=by
 cases inn with
 |none=>
  have hd:d=12:=hinn;subst hd;exact Qj h
 |some f=>exact Qk h hinn.1 hi
theorem ax.keep{bad:Zh}(h:ax w V b g cap T i d bad)(hk:∀m o,(m=b\/m=g\/V m)->w.heap[m]?=Zb o->w'.heap[m]?=w.heap[m]?):ax w' V b g cap T i d bad:=by
 refine⟨(hk b _ (Zg rfl) h.blk).trans h.blk,?_,h.ne,h.v,h.len,h.il,h.dl,h.bad1,h.last,h.ats,λm hm=>by obtain⟨o,ho,hn⟩:=h.vt m hm;exact⟨o,(hk m o (Ze (Ze hm)) ho).trans ho,hn⟩⟩;obtain⟨xs,h1,h2⟩:=h.row;refine⟨xs,⟨h1.1,?_⟩,h2.keep (λm o hm ho=>⟨hk m o (Ze (Ze hm)) ho,hm⟩)⟩;rcases h1.2 with h3|⟨g',cap',cur,e,h0,hg,r⟩
 .exact Zg h3
 .refine Ze ⟨g',cap',cur,e,h0,?_,r⟩;have eg:g'=g:=by injection e with e;injection e with e;injection e with e;exact e.symm
  subst eg;exact(hk g' _ (Ze (Zg rfl)) hg).trans hg
theorem ax.rowlt{bad:Zh}(h:ax w V b g cap T i d bad):g<w.heap.size:=by
 obtain⟨xs,h1,h2⟩:=h.row;exact(ZE h1 g rfl).2
theorem af4(h:zU T inn i=.error bad):ko T inn i=.error bad:=by
 cases inn with
 |none=>exact(by injection h with h;subst h;rfl)
 |some f=>unfold zU at h;unfold ko;simp only at h⊢;rw[h]
theorem af5{y:Zd Zk×Zd Nd×O}(h:zU T inn i=.ok y):ko T inn i=gY T eU (dn m8 y.2.1) y.2.2:=by
 cases inn with
 |none=>exact(by injection h)
 |some f=>unfold zU at h;unfold ko;simp only at h⊢;rw[h]
theorem FD(h:thing j=.error bad):dY T thing (f+1) ks l j=.error bad:=by rw[dY,h]
theorem Nz{ks':Zd Zk}(h:thing j=.ok (ks',y,k)):dY T thing (f+1) ks l j=if ag T k kX then dY T thing f (ks++ks') (l++[y]) (k+1)else .ok (ks++ks',l++[y],k):=by rw[dY,h]
theorem D0{own:Option O}(h:ab b w w4)(an:(w4.alloc o).grownBy w5 own)(am:∀g,own=Zb g->w.heap.size<=g):ab b w w5:=
 ⟨an.os.trans h.os,an.tape.trans h.tape,an.output.trans h.output,by have h1:=h.size;have h2:=an.size;simp at h2;omega,
  λk hk hn=>(an.block k (by have:=h.size;simp;omega) (λe=>by have:=am k e.symm;omega)).trans ((Zw _ _ _ (by have:=h.size;omega)).trans (h.block k hk hn))⟩
theorem np{o:O}(h:ab b w w5)(hn:w.heap.size<=nb):ab b w (w5.setCell ⟨nb,o,Za⟩ v):=
 ⟨h.os,h.tape,h.output,by simpa[ZA]using h.size,λk hk bj=>(Zv _ _ _ _ (by intro e;have e:k=nb:=e;omega)).trans (h.block k hk bj)⟩
def GE(V:O->Prop)(b g cap:O)(T:Zd (aj×O))(i d:O)(P:Prop)(w:Zl)(nb:O)(thing:O->Zr O (Zd Zk×Nd×O))(res:Zr O (Zd Zk×Zd Nd×O))(gh:O)(lsl:Zp)(l:Zd Nd)(ps:Zd Zp)(wr:Zl)(m4:O)(w4:Zl):Prop:=
 (∃y j4,P/\mt V w.heap.size nb lsl l ps w4/\i<j4/\T.length<=j4+gh/\ax w4 V b g cap T j4 (d+1) (-1)/\aJ w4 (λm=>V m\/wr.heap.size<=m) y (.pointer (Zb ⟨m4,0,Za⟩)) /\
  res=if ag T j4 kX then dY T thing (gh-1) [] (l++[y]) (j4+1)else .ok ([],l++[y],j4)) \/
 (∃(bad j4:O),res=.error bad/\ax w4 V b g cap T j4 (d+1) (bad:Zh))
theorem Ql(V:O->Prop)(b g cap:O)(T:Zd (aj×O))(d:O)(inn:bc)(hinn:qw V b g cap T d inn)(w:Zl)(i:O)(h:ax w V b g cap T i d (-1))(hV:∀m,V m->m<w.heap.size)(hs:ag T i iu=Zo):
 Zq prog 191 #[.pointer (Zb ⟨b,0,Za⟩)] w λe w'=>∃p,e=.returned p/\ab b w w' /\
 (
  (∃x j,XX (ko T inn i=.ok (x,j))/\i<=j/\ax w' V b g cap T j d (-1)/\XX (aJ w' (λm=>V m\/w.heap.size<=m) x p)) \/
  (∃(bad:O) (j:O),XX (ko T inn i=.error bad)/\ax w' V b g cap T j d (bad:Zh)/\XX (gx w' w.heap.size p))):=by
 have aR:XX (b<w.heap.size):=al h.blk;have aV:XX (∀m,V m->m≠b):=h.v;have HV:=aa hV;have kl:=tz h hs;have iJ:XX (g<w.heap.size):=h.rowlt;have az:=h.len;have BG:d<=12:=by
  cases inn with
  |none=>have hd:d=12:=hinn;omega
  |some f=>have:=hinn.1;omega
 obtain⟨w1,dE⟩:∃w1,w1=w.alloc (bH m8 0 ⟨#[]⟩ (.slice Za 0 0) (.slice Za 0 0) 0 0 0 Zc Zc Zc (.pointer Za)):=⟨_,rfl⟩
 have aC:ax w1 V b g cap T i d (-1):=by rw[dE];exact h.alloc _
 have HD:=aa (Ea hinn aC kl);have lX:=aa hinn;have tK:XX (w1.heap[w.heap.size]?=Zb (bH m8 0 ⟨#[]⟩ (.slice Za 0 0) (.slice Za 0 0) 0 0 0 Zc Zc Zc (.pointer Za))):=by show _=_;rw[dE];exact aE rfl
 have aT:XX (ab b w w1):=by show ab _ _ _;rw[dE];exact(ab.refl b w).alloc _
 clear h hV hinn aC hs;subst dE;go_enter func191,ntmps191;go_wp2_with fail;refine Zf HD.o ?_;rintro e w2 ⟨rfl,ce,cP⟩;have hI:Gt V b g cap T i d (inn≠Za) w w.heap.size (zV inn) (zU T inn i) T.length Zo w2:=by
  refine⟨aT.o.trans ce,?_,.slice Za 0 0,[],[],?_,by simp,?_⟩
  .have:=ce.size;have:=al tK.o;omega
  .exact(ce.block _ (al tK.o) (by intro e;injection e with e;have:=aR.o;omega)).trans tK.o
  .cases inn with
   |none=>exact Ze ⟨bE T i,i,rfl,λ_=>by omega,cP.o,Zt _ _ _ _,λg hg=>by simp[Zm]at hg⟩
   |some f=>exact Zg ⟨i+1,by simp,cP.o,mt.nil _ _ _ _,by omega,by rw[Zi rfl];exact⟨rfl,by omega⟩⟩
 have HI:=aa hI;clear ce cP hI;go_wp2_with fail;obtain⟨res,dD⟩:∃res,res=zU T inn i:=⟨_,rfl⟩
 rw[<-dD]at HI;have eY:XX (zU T inn i=res):=dD.symm;clear dD;go_loopg [4] T.length (λgh mv wr=>∃more,mv=.bool more/\Gt V b g cap T i d (inn≠Za) w w.heap.size (zV inn) res gh more wr)
 case atStart=>exact⟨Zo,rfl,HI.o⟩
 case round=>
  obtain⟨more,rfl,aM,md,lsl,l,ps,cd,em,eo⟩:=hrel;have dI:=aa aM;have vV:w.heap.size<=wr.heap.size:=aM.size;cases more
  .have iy:=aa cd;have sC:=aa eo;have EJ:Zq prog 222 #[.pointer (Zb ⟨b,0,Za⟩),.string ⟨#[93]⟩] wr λe w8=>e=.returned (.tuple #[])/\ab b wr w8/\XX ((∃x j,ko T inn i=.ok (x,j)/\i<=j/\ax w8 V b g cap T j d (-1)/\aJ w8 (λm=>V m\/w.heap.size<=m) x (.pointer (Zb ⟨w.heap.size,0,Za⟩)))\/(∃(bad j:O),ko T inn i=.error bad/\ax w8 V b g cap T j d (bad:Zh))):=by
    rcases sC.o with⟨j,bj,hp,hk,ej,hr⟩|⟨bad,j,hr,mJ,hp,aO,am⟩
    .rw[Zj (by simp)]at hr;refine(uc hp ⟨#[93]⟩ (B:=ag T j eU) (by simp[eU])).mono ?_;rintro e w8 ⟨rfl,bG,fP⟩;have hL:=af5 (eY.o.trans hr);have lw:=hk.but bG aR.o aV.o;have nt:=(bG.block _ md (by intro e;injection e with e;have:=aR.o;omega)).trans iy.o;refine⟨rfl,bG,?_⟩;cases hc:ag T j eU with
     |true=>
      rw[hc]at fP;refine Zg ⟨dn m8 l,j+1,by rw[hL,gY,hc];rfl,by omega,fP,?_⟩;unfold dn aJ;refine⟨w.heap.size,_,lsl,ps,Za,rfl,Ze (Zn _),nt,⟨Zt _ _ _ _,λg hg=>by simp[Zm]at hg⟩,⟨lw.row,λg hg=>Ze (lw.own g hg).1⟩,cr.keep (λm o hm ho=>⟨rfl,hm.1⟩) _ _ lw.refs,rfl⟩
     |false=>
      rw[hc]at fP;exact Ze ⟨bE T j,j,by rw[hL,gY,hc];rfl,fP⟩
    .refine(uc hp ⟨#[93]⟩ (B:=Zc) (by rw[Zu (by omega)];rfl)).mono ?_;rintro e w8 ⟨rfl,bG,fP⟩;refine⟨rfl,bG,Ze ⟨bad,j,af4 (eY.o.trans hr),?_⟩⟩;have vK:¬((bad:Zh)<0):=by omega
     simp only[Bool.false_eq_true,if_false,vK]at fP;exact fP
   have i9:=aa EJ;clear aM cd eo HI EJ;go_wp2_with fail;refine Zf i9.o ?_;rintro e w8 ⟨rfl,bG,hf⟩;have ib:=aa bG;have d6:=aa hf.o;have JD:=aa ((bG.block _ md (by intro e;injection e with e;have:=aR.o;omega)).trans iy.o);clear bG hf;go_wp2;go_ret;refine⟨_,rfl,dI.o.trans ib.o,?_⟩;rcases d6.o with⟨x,j,h1,h2,h3,h4⟩|⟨bad,j,h1,h2⟩
   .exact Zg ⟨x,j,h1,h2,h3,h4⟩
   .have hN:gx w8 w.heap.size (.pointer (Zb ⟨w.heap.size,0,Za⟩)):=⟨w.heap.size,_,_,_,_,_,_,_,_,_,_,_,_,rfl,Zn _,JD.o⟩
    first|exact Ze ⟨bad,j,h1,h2,hN⟩|exact Ze ⟨bad,h1,⟨j,h2⟩,hN⟩
  .have xq:Zq prog 59 #[.pointer (Zb ⟨b,0,Za⟩),.int .i64 0] wr λe w4=>∃m4,e=.returned (.pointer (Zb ⟨m4,0,Za⟩))/\ab b wr w4/\XX (GE V b g cap T i d (inn≠Za) w w.heap.size (zV inn) res gk lsl l ps wr m4 w4):=by
    rcases eo with⟨j,bj,hp,hk,ej,hr⟩|⟨bad,j,hr,mJ,hp,aO,am⟩
    .rw[Zi rfl]at hr;have mL:gk=(gk-1)+1:=by have:=hp.il;omega
     cases inn with
     |none=>exact absurd rfl bj
     |some f=>
      refine(lX.o.2.2 wr j hp (λm hm=>by have:=HV.o m hm;omega)).mono ?_;rintro e w4 ⟨p,rfl,ar,cP⟩;have oY:=hk.but ar aR.o aV.o;rcases cP with⟨y,j4,hy,j5,bg,bI⟩|⟨bad4,j4,hy,bg,bI⟩
      .obtain⟨m4,e4,_⟩:=bI.o.ptr;subst e4;refine⟨m4,rfl,ar,Zg ⟨y,j4,by simp,oY,by omega,by omega,bg,bI.o,?_⟩⟩;have:=hr.1;rw[mL,Nz (ks':=[]) (y:=y) (k:=j4) (by show kn f.2 j=_;rw[kn,hy.o])]at this;exact this.symm
      .obtain⟨m4,e4,_⟩:=bI.o.ptr;subst e4;refine⟨m4,rfl,ar,Ze ⟨bad4,j4,?_,bg⟩⟩;have:=hr.1;rw[mL,FD (bad:=bad4) (by show kn f.2 j=_;rw[kn,hy.o])]at this;exact this.symm
    .refine(yX V b g cap T 0 (by omega) wr j (d+1) bad hp (by omega) (by omega)).mono ?_;rintro e w4 ⟨p,rfl,ar,bg,bI⟩;obtain⟨m4,e4,_⟩:=bI.o.ptr;subst e4;exact⟨m4,rfl,ar,Ze ⟨bad,j,hr,bg⟩⟩
   have aO:ao wr 68 lsl ps/\(∀g,lsl.ownBlock=Zb g->w.heap.size<=g/\g≠w.heap.size):=by
    rcases eo with⟨j,bj,hp,hk,ej,hr⟩|⟨bad,j,hr,mJ,hp,aO,am⟩
    .exact⟨hk.row,hk.own⟩
    .exact⟨aO,am⟩
   have qJ:1<=gk:=by
    rcases eo with⟨j,bj,hp,hk,ej,hr⟩|⟨bad,j,hr,mJ,hp,aO,am⟩
    .rw[Zi rfl]at hr;have:=hp.il;omega
    .exact mJ rfl
   have dT:=aa aO;have Da:=aa xq;have iy:=aa cd;clear xq aO eo aM cd HI;go_wp2_with fail;refine Zf Da.o ?_;rintro e w4 ⟨m4,rfl,eb,rM⟩;have de:w4.heap[w.heap.size]?=Zb (bH m8 0 ⟨#[]⟩ (.slice Za 0 0) lsl 0 0 0 Zc Zc Zc (.pointer Za)):=(eb.block _ md (by intro e;injection e with e;have:=aR.o;omega)).trans iy.o;obtain⟨c0,c3,c4,cf⟩:=kU de;have AN:XX (ao w4 68 lsl ps):=ao.same dT.o.1 (λk hk=>eb.block k (ao.lt dT.o.1 hk) (by intro e;injection e with e;have:=(dT.o.2 k hk).1;have:=aR.o;omega));have pF:=aa de;have na:=aa eb;have oc:wr.heap.size<=w4.heap.size:=eb.size;clear eb de c0 c3;go_wp2_with (at_builtin;refine pP rfl (.tmp 17) (.tmp 19) 132 68 rfl (.pointer Za) 8 zR rfl underlying132 (by decide) lsl ps rfl ?h1 _ _ (.pointer (Zb ⟨m4,0,Za⟩)) rfl ?h2 rfl ?h3 (w4.heap.size+1) ?h4 ?_)
   case h1=>exact ZD AN.o _
   case h2=>exact my rfl
   case h3=>omega
   case h4=>simp
   intro g5 cap5 w5 jh bK ij mP;have E3:Zb w.heap.size≠lsl.ownBlock:=λe=>(dT.o.2 _ e.symm).2 rfl
   have cw:w5.heap[w.heap.size]?=Zb (bH m8 0 ⟨#[]⟩ (.slice Za 0 0) lsl 0 0 0 Zc Zc Zc (.pointer Za)):=(bK.block _ (by simp;omega) E3).trans ((Zw _ _ _ (by omega)).trans pF.o);obtain⟨f0,f3,f4,ff⟩:=kU cw;have Ck:w4.heap.size+1<=w5.heap.size:=by have:=bK.size;simpa using this
   obtain⟨v5,hv5⟩:∃v5,v5=Zy (Zb ⟨g5,0,Za⟩) (ps.length+1) cap5:=⟨_,rfl⟩
   obtain⟨w6,fG⟩:∃w6,w6=w5.setCell ⟨w.heap.size,4,Za⟩ (.slice (Zb ⟨g5,0,Za⟩) (ps.length+1) cap5):=⟨_,rfl⟩
   have ya:XX (ab b w w6):=by
    show ab _ _ _;rw[fG];exact np (D0 (dI.o.trans na.o) bK (λk hk=>(dT.o.2 k hk).1)) (Zn _)
   have xC:∀m,m<w.heap.size->w6.heap[m]?=w4.heap[m]?:=by
    intro m hm;rw[fG,Zv _ _ _ _ (by intro e;have e:m=w.heap.size:=e;omega),bK.block m (by simp;omega) (λe=>by have:=(dT.o.2 m e.symm).1;omega)];exact Zw _ _ _ (by omega)
   have rF:∀j4 bad4,ax w4 V b g cap T j4 (d+1) bad4->ax w6 V b g cap T j4 (d+1) bad4:=λj4 bad4 h=>h.keep (λm o hm ho=>xC m (by rcases hm with rfl|rfl|hm;exact aR.o;exact iJ.o;exact HV.o m hm))
   have fk:w6.heap[w.heap.size]?=Zb (bH m8 0 ⟨#[]⟩ (.slice Za 0 0) (.slice (Zb ⟨g5,0,Za⟩) (ps.length+1) cap5) 0 0 0 Zc Zc Zc (.pointer Za)):=by rw[fG];exact IG cw _
   have ut:ao w6 68 (.slice (Zb ⟨g5,0,Za⟩) (ps.length+1) cap5) (ps++[.pointer (Zb ⟨m4,0,Za⟩)])/\(∀k,(Zy (Zb ⟨g5,0,Za⟩) (ps.length+1) cap5).ownBlock=Zb k->w.heap.size<=k/\k≠w.heap.size):=by
    have iB:w.heap.size<=g5/\g5≠w.heap.size:=by
     rcases ij with h|h
     .exact dT.o.2 g5 h
     .omega
    refine⟨ao.same jh (λk hk=>?_),λk hk=>?_⟩
    .have e:g5=k:=by simpa[Zm]using hk
     subst e;rw[fG];exact Zv _ _ _ _ (by simpa using iB.2)
    .have e:g5=k:=by simpa[Zm]using hk
     subst e;exact iB
   have Se:(∃y j4,inn≠Za/\mt V w.heap.size w.heap.size (.slice (Zb ⟨g5,0,Za⟩) (ps.length+1) cap5) (l++[y]) (ps++[.pointer (Zb ⟨m4,0,Za⟩)]) w6/\i<j4/\T.length<=j4+gk/\ax w6 V b g cap T j4 (d+1) (-1) /\
    res=if ag T j4 kX then dY T (zV inn) (gk-1) [] (l++[y]) (j4+1)else .ok ([],l++[y],j4)) \/
    (∃(bad j4:O),res=.error bad/\ax w6 V b g cap T j4 (d+1) (bad:Zh)):=by
    rcases rM.o with⟨y,j4,bj,oY,ej,jM,bg,bI,hr⟩|⟨bad,j4,hr,bg⟩
    .refine Zg ⟨y,j4,bj,?_,ej,jM,rF _ _ bg,hr⟩;rw[fG];exact oY.app bI (by omega) (λk hk=>ao.lt dT.o.1 hk) vV HV.o (Zn _) oc bK jh ij
    .exact Ze ⟨bad,j4,hr,rF _ _ bg⟩
   have aad:=aa Se;have AO:=aa ut;have C9:=aa fk;have AU:=aa fG;have amF:w6.heap.size=w5.heap.size:=by rw[fG];simp[ZA]
   clear rM Se ut fk rF xC jh bK ij mP cw f0 f3 hv5 fG;go_wp2_with fail;rw[<-AU.o];have SB:Zq prog 97 #[.pointer (Zb ⟨b,0,Za⟩),.string ⟨#[44]⟩] w6 λe w7=>∃B,e=.returned (.bool B)/\XX (Gt V b g cap T i d (inn≠Za) w w.heap.size (zV inn) res (gk-1) B w7):=by
    have fin:∀B w7,ab b w6 w7->((∃y j4,inn≠Za/\mt V w.heap.size w.heap.size (.slice (Zb ⟨g5,0,Za⟩) (ps.length+1) cap5) (l++[y]) (ps++[.pointer (Zb ⟨m4,0,Za⟩)]) w7/\ax w7 V b g cap T j4 (d+1) (-1)/\i<j4/\(if B then dY T (zV inn) (gk-1) [] (l++[y]) j4=res/\T.length<=j4+(gk-1)else res=.ok ([],l++[y],j4)))\/(∃(bad j4:O),res=.error bad/\B=Zc/\ax w7 V b g cap T j4 (d+1) (bad:Zh)))->Gt V b g cap T i d (inn≠Za) w w.heap.size (zV inn) res (gk-1) B w7:=by
     intro B w7 iO Mp;have Ik:w6.heap.size<=w7.heap.size:=iO.size;have zF:w7.heap[w.heap.size]?=_:=(iO.block _ (al C9.o) (by intro e;injection e with e;have:=aR.o;omega)).trans C9.o;rcases Mp with⟨y,j4,h1,h2,h3,h4,h5⟩|⟨bad,j4,h1,h2,h3⟩
     .exact⟨ya.o.trans iO,by omega,_,l++[y],_,zF,by simp;omega,Zg ⟨j4,h1,h3,h2,h4,h5⟩⟩
     .refine⟨ya.o.trans iO,by omega,_,l,ps++[.pointer (Zb ⟨m4,0,Za⟩)],zF,by rw[Zd.length_append];simp;omega,Ze ⟨bad,j4,h1,(λ(h:B=Zo)=>by rw[h2]at h;cases h),h3,ao.same AO.o.1 (λk hk=>iO.block k (ao.lt AO.o.1 hk) (by intro e;injection e with e;have:=(AO.o.2 k hk).1;have:=aR.o;omega)),AO.o.2⟩⟩
    rcases aad.o with⟨y,j4,bj,hk,ej,jM,hp,hr⟩|⟨bad,j4,hr,hp⟩
    .refine(kH hp ⟨#[44]⟩ (B:=ag T j4 kX) (by simp[kX])).mono ?_;rintro e w7 ⟨rfl,iO,pb⟩;refine⟨_,rfl,fin _ w7 iO (Zg ⟨y,(if ag T j4 kX then j4+1 else j4),bj,hk.but iO aR.o aV.o,pb,?_,?_⟩)⟩
     .split <;> omega
     .cases hc:ag T j4 kX with
      |true=>rw[hc]at hr;simp at hr⊢;exact⟨hr.symm,by omega⟩
      |false=>rw[hc]at hr;simp at hr⊢;exact hr
    .refine(kH hp ⟨#[44]⟩ (B:=Zc) (by rw[Zu (by omega)];rfl)).mono ?_;rintro e w7 ⟨rfl,iO,pb⟩;exact⟨_,rfl,fin _ w7 iO (Ze ⟨bad,j4,hr,rfl,pb⟩)⟩
   have aav:=aa SB;clear SB;refine Zf aav.o ?_;rintro e w7 ⟨B,rfl,xk⟩;have Dl:=aa xk.o;clear xk f4 ff c4 cf;go_wp2;go_roundg (gk-1)
   case measure=>omega
   case rel=>exact⟨B,rfl,Dl.o⟩
theorem U1{u:Zk}(h:(aD u).2=0):(aD u).1.kind=120:=by
 rw[aD]at h⊢;by_cases h1:eD (gb u 0)=Zo
 .rw[Zi h1]at h;have:=(Oe (u:=u) u.size 1).1;simp only[oo]at h;omega
 rw[Zj h1]at h⊢;by_cases h2:gb u 0=34
 .rw[Zi h2]at h⊢;by_cases h':(aw u 0).2.2<0
  .rw[Zi h']at h;have h3:(aw u 0).2.1=0:=h;rw[aw,Zi h2]at h3;have:=FL (s:=u) (u.size+1) (0+1) [];omega
  .rw[Zj h'];rfl
 rw[Zj h2]at h⊢;by_cases h3:gb u 0=39
 .rw[Zi h3]at h⊢;by_cases h':(oL u).2=0
  .rw[Zi h'];rfl
  .rw[Zj h']at h;exact absurd h h'
 rw[Zj h3]at h⊢;by_cases h4:gb u 0=96
 .rw[Zi h4]at h⊢;cases hl:nF u with
  |none=>rfl
  |some j=>
   rw[hl]at h;simp only at h⊢;unfold qP at h⊢;by_cases h6:(eG (u.extract 1 j)).2.2=6
   .rw[Zi h6]at h;simp at h
   .rw[Zj h6]at h⊢;by_cases h0:(eG (u.extract 1 j)).2.2=0
    .rw[Zi h0]at h⊢;cases hp:cZ 12 (u.extract 1 j) 0 Zc with
     |ok r=>rw[hp]at h;simp at h
     |error e=>rfl
    .rw[Zj h0];rfl
 rw[Zj h4]at h⊢;by_cases h5:gb u 0=45\/aK (gb u 0)=Zo
 .rw[Zi h5]at h⊢;by_cases h':(ia u).2=0
  .rw[Zi h'];rfl
  .rw[Zj h']at h;exact absurd h h'
 rw[Zj h5]at h⊢;by_cases h6:1<u.size/\ea lQ (u.extract 0 2)=Zo
 .rw[Zi h6]at h;simp at h
 rw[Zj h6]at h⊢;by_cases h7:ea kY (u.extract 0 1)=Zo
 .rw[Zi h7]at h;simp at h
 .rw[Zj h7];rfl
theorem U3{u:Zk}:∀(f i:O),i<=u.size->u.size<i+f ->
 0<(js u f i).length/\(∀(k:O) (x:aj×O),(js u f i)[k]?=Zb x->k+1=(js u f i).length->x.1.kind=101\/x.1.kind=120)/\(∀(k:O) (x:aj×O),(js u f i)[k]?=Zb x->x.2<=u.size)
 |0,i,h1,h2=>by omega
 |f+1,i,h1,h2=>by
  have eQ:=iH u i h1;have amA:=fJ u i;rw[js];by_cases he:ak u i=u.size
  .rw[Zi he];refine⟨by simp,?_,?_⟩
   .intro k x hx hk;simp at hk;subst hk;simp at hx;subst hx;exact Zg rfl
   .intro k x hx;cases k with
    |zero=>simp at hx;subst hx;simp only;omega
    |succ k=>simp at hx
  .rw[Zj he];have aH:0<(u.extract (ak u i) u.size).size:=by simp[Zk.size_extract];omega
   have gW:=N6 aH;have hes:(u.extract (ak u i) u.size).size=u.size-ak u i:=QH (i:=0) eQ;by_cases h0:(aD (u.extract (ak u i) u.size)).2=0
   .rw[Zi h0];refine⟨by simp,?_,?_⟩
    .intro k x hx hk;simp at hk;subst hk;simp at hx;subst hx;exact Ze (U1 h0)
    .intro k x hx;cases k with
     |zero=>simp at hx;subst hx;simp only;omega
     |succ k=>simp at hx
   .rw[Zj h0];obtain⟨r1,r2,r3⟩:=U3 (u:=u) f (ak u i+(aD (u.extract (ak u i) u.size)).2) (by omega) (by omega);refine⟨by simp,?_,?_⟩
    .intro k x hx hk;cases k with
     |zero=>simp at hk;rw[Zd.length_eq_zero_iff.2 hk]at r1;omega
     |succ k=>exact r2 k x (by simpa using hx) (by simpa using hk)
    .intro k x hx;cases k with
     |zero=>simp at hx;subst hx;simp only;omega
     |succ k=>exact r3 k x (by simpa using hx)
theorem Je(u:Zk):0<(toks u).length/\(toks u).length<=u.size+1/\(∀(k:O) (x:aj×O),(toks u)[k]?=Zb x->k+1=(toks u).length->x.1.kind=101\/x.1.kind=120)/\(∀(k:O) (x:aj×O),(toks u)[k]?=Zb x->x.2<=u.size):=by
 have h:=U3 (u:=u) (u.size+1) 0 (by omega) (by omega);exact⟨h.1,U4 _ _,h.2.1,h.2.2⟩
end Go.Proofs.YtdlgkgfeoiohiaaGreatDoor
