/- Part 25. -/
import Derived.Test.YtdlgkgfeoiohiaaGreatDoorA23
open Bool renaming false -> Zb,true -> Zd
open Go renaming Value -> Zj
open Go.Calls renaming mono -> Ze
open Go.RowKit.Below renaming heap_setCell -> Zm
open Go.Value renaming ownBlock -> Zt
open Go.World renaming setCell -> Zo
open Nat renaming le_refl -> Zh,add_zero -> Zn,lt_or_ge -> Zr
open Option renaming none -> O,some -> Za
open Or renaming inl -> Zg,inr -> Zi
open _root_ renaming Nat -> Zc,Int -> Zf,absurd -> Zk,ByteArray -> Zl,beq_eq_false_iff_ne -> Zp,beq_iff_eq -> Zq
namespace Go.Proofs.YtdlgkgfeoiohiaaGreatDoor
set_option linter.unusedVariables false
set_option maxHeartbeats 16000000
set_option maxRecDepth 100000
open Go.RowKit J Tryz
variable {w wr:World}{b g cap d i nb:Zc}{V:Zc->Prop}{T:List (aj×Zc)}{bad:Zf}
section
variable {w:World} {nb:Zc} {op:Zl} {a:Zc} {s:Zl} {nsl lsl:Zj} {n0 n1 n2:Zf} {i0 i1 i2:Bool} {v:Zj}
theorem Fu(hb:w.heap[nb]?=Za (bH op a s nsl lsl n0 n1 n2 i0 i1 i2 v))(x:Zl):(w.setCell ⟨nb,0,O⟩ (.string x)).heap[nb]?=Za (bH x a s nsl lsl n0 n1 n2 i0 i1 i2 v):=cY hb _
theorem agx(hb:w.heap[nb]?=Za (bH op a s nsl lsl n0 n1 n2 i0 i1 i2 v))(x:Zf):(w.setCell ⟨nb,5,O⟩ (.int .i64 x)).heap[nb]?=Za (bH op a s nsl lsl x n1 n2 i0 i1 i2 v):=cY hb _
theorem agy(hb:w.heap[nb]?=Za (bH op a s nsl lsl n0 n1 n2 i0 i1 i2 v))(x:Zf):(w.setCell ⟨nb,6,O⟩ (.int .i64 x)).heap[nb]?=Za (bH op a s nsl lsl n0 x n2 i0 i1 i2 v):=cY hb _
theorem II(hb:w.heap[nb]?=Za (bH op a s nsl lsl n0 n1 n2 i0 i1 i2 v))(x:Zf):(w.setCell ⟨nb,7,O⟩ (.int .i64 x)).heap[nb]?=Za (bH op a s nsl lsl n0 n1 x i0 i1 i2 v):=cY hb _
theorem agz(hb:w.heap[nb]?=Za (bH op a s nsl lsl n0 n1 n2 i0 i1 i2 v))(x:Bool):(w.setCell ⟨nb,8,O⟩ (.bool x)).heap[nb]?=Za (bH op a s nsl lsl n0 n1 n2 x i1 i2 v):=cY hb _
theorem agA(hb:w.heap[nb]?=Za (bH op a s nsl lsl n0 n1 n2 i0 i1 i2 v))(x:Bool):(w.setCell ⟨nb,9,O⟩ (.bool x)).heap[nb]?=Za (bH op a s nsl lsl n0 n1 n2 i0 x i2 v):=cY hb _
theorem IF(hb:w.heap[nb]?=Za (bH op a s nsl lsl n0 n1 n2 i0 i1 i2 v))(x:Bool):(w.setCell ⟨nb,10,O⟩ (.bool x)).heap[nb]?=Za (bH op a s nsl lsl n0 n1 n2 i0 i1 x v):=cY hb _
theorem Cr(hb:w.heap[nb]?=Za (bH op a s nsl lsl n0 n1 n2 i0 i1 i2 v)):
 w.cell? ⟨nb,5,O⟩=Za (.int .i64 n0)/\w.cell? ⟨nb,6,O⟩=Za (.int .i64 n1)/\w.cell? ⟨nb,7,O⟩=Za (.int .i64 n2)/\w.cell? ⟨nb,8,O⟩=Za (.bool i0)/\w.cell? ⟨nb,9,O⟩=Za (.bool i1)/\w.cell? ⟨nb,10,O⟩=Za (.bool i2):=by
 unfold bH at hb;refine⟨?_,?_,?_,?_,?_,?_⟩ <;> simp[World.cell?,hb]
end
theorem ax.setN(h:ax w V b g cap T i d bad)(h1:b<nb)(h2:g<nb)(h3:∀m,V m->m<nb)(o:Zc)(v:Zj):ax (w.setCell ⟨nb,o,O⟩ v) V b g cap T i d bad:=
 h.keep (λm o' hm ho=>Zm _ _ _ _ (by rcases hm with rfl|rfl|hm;simp;omega;simp;omega;have:=h3 m hm;simp;omega))
theorem ax.drew(h:ax w V b g cap T i d bad):ax w.drew V b g cap T i d bad:=h.same (Below.refl _ w).drew
theorem ax.setI(h:ax w V b g cap T i d bad)(i':Zc)(hi:i'<T.length):ax (w.setCell ⟨b,1,O⟩ (.int .i64 i')) V b g cap T i' d bad:=
 h.to ((ab.refl b w).setCell _ _) (uf h.blk i') hi h.dl h.bad1
theorem Fv{o:Zc}{v:Zj}{x:Obj}(hb:w.heap[nb]?=Za x)(bj:b<nb):(w.setCell ⟨b,o,O⟩ v).heap[nb]?=Za x:=(Zm _ _ _ _ (by simp;omega)).trans hb
theorem MX{j:Zc}(hBL:b<w.heap.size)(hGL:g<w.heap.size)(hV:∀m,V m->m<w.heap.size)(h:ax wr V b g cap T j d bad)(aM:ab b w wr)(o1 o2:Zc)(v1 v2:Zj)(qL:j+1<T.length):
 ax (((wr.setCell ⟨w.heap.size,o1,O⟩ v1).setCell ⟨w.heap.size,o2,O⟩ v2).setCell ⟨b,1,O⟩ (.int .i64 (j+1:Zc))).drew.drew.drew V b g cap T (j+1) d bad/\ab b w (((wr.setCell ⟨w.heap.size,o1,O⟩ v1).setCell ⟨w.heap.size,o2,O⟩ v2).setCell ⟨b,1,O⟩ (.int .i64 (j+1:Zc))).drew.drew.drew:=
 ⟨(((h.setN hBL hGL hV o1 v1).setN hBL hGL hV o2 v2).setI (j+1) qL).drew.drew.drew,((np (np aM (Zh _)) (Zh _)).setCell 1 (.int .i64 (j+1:Zc))).drew.drew.drew⟩
def Wd(T:List (aj×Zc))(i k j:Zc)(n0 n1:Zf)(i0 i1:Bool):Prop:=
 (k=0/\j=i+1/\n0=0/\n1=0/\i0=Zb/\i1=Zb) \/
 (k=1/\n1=0/\i1=Zb/\∃p1,aZ T (i+1)=(n0,i0,p1)/\ag T p1 fo=Zd/\j=p1+1) \/
 (k=2/\∃p1 p2,aZ T (i+1)=(n0,i0,p1)/\ag T p1 fo=Zd/\aZ T (p1+1)=(n1,i1,p2)/\ag T p2 fo=Zd/\j=p2+1)
def Kk(T:List (aj×Zc))(j:Zc)(t:aj)(nv:Zf)(iv:Bool)(p:Zc):Prop:=(t.kind=110/\nv=t.num/\iv=Zd/\p=j+1)\/(t.kind≠110/\nv=0/\iv=Zb/\p=j)
def abd:Zc->Zl
 |0=>oO
 |_=>j7
def Om(V:Zc->Prop)(b g cap:Zc)(T:List (aj×Zc))(i d:Zc)(inn:bc)(w:World)(gh:Zc)(kv:Zj)(wr:World):Prop:=
 ∃k n0 n1 i0 i1 j,kv=.int .i64 (k:Zc)/\gh+k=3/\ab b w wr/\wr.heap[w.heap.size]?=Za (bH (abd k) 0 ⟨#[]⟩ (.slice O 0 0) (.slice O 0 0) n0 n1 0 i0 i1 Zb (.pointer O)) /\
  ((∃f,inn=Za f/\ag T (i+1) eU=Zb/\ag T (i+1) eV=Zb/\ag T (i+1) kW=Zb/\ax wr V b g cap T j (d+1) (-1)/\i<j/\Wd T i k j n0 n1 i0 i1)\/(k=0/\∃bad:Zc,tY T inn i=.error bad/\ax wr V b g cap T j (d+1) (bad:Zf)))
theorem vh{inn:bc}{op:Zl}{n0 n1 n2:Zf}{i0 i1 i2:Bool}
 (hBL:b<w.heap.size) (hVB:∀m,V m->m≠b) (cd:wr.heap[w.heap.size]?=Za (bH op 0 ⟨#[]⟩ (.slice O 0 0) (.slice O 0 0) n0 n1 n2 i0 i1 i2 (.pointer O)))
 (eo:(∃j,ax wr V b g cap T j (d+1) (-1)/\i<j/\tY T inn i=.ok (.mk op 0 ⟨#[]⟩ [] [] n0 n1 n2 i0 i1 i2 O,j))\/(∃(bad j:Zc),tY T inn i=.error bad/\ax wr V b g cap T j (d+1) (bad:Zf))):
 Calls prog 222 #[.pointer (Za ⟨b,0,O⟩),.string ⟨#[93]⟩] wr λe w8=>e=.returned (.tuple #[])/\ab b wr w8/\XX (F0 V b g cap T i d w (jy T inn i) (.pointer (Za ⟨w.heap.size,0,O⟩)) w8):=
 PI (l:=[]) (ps:=[]) hBL hVB cd (eo.imp_left λ⟨j,h1,h2,h3⟩=>⟨j,h1,⟨World.ownsRow_nil _ _ _ _,λg hg=>by simp[Zt]at hg⟩,by unfold cr;rfl,h2,h3⟩)
theorem Qh(V:Zc->Prop)(b g cap:Zc)(T:List (aj×Zc))(d:Zc)(inn:bc)(hinn:qw V b g cap T d inn)(w:World)(i:Zc)(h:ax w V b g cap T i d (-1))(hV:∀m,V m->m<w.heap.size)(hs:ag T i iu=Zd):
 Calls prog 193 #[.pointer (Za ⟨b,0,O⟩)] w (lD V b g cap T i d w (jy T inn i)):=by
 have aR:XX (b<w.heap.size):=al h.blk;have aV:XX (∀m,V m->m≠b):=h.v;have HV:=aa hV;have kl:=tz h hs;have iJ:XX (g<w.heap.size):=h.rowlt;have az:=h.len;have BG:d<=12:=by
  cases inn with
  |none=>have hd:d=12:=hinn;omega
  |some f=>have:=hinn.1;omega
 obtain⟨w1,dE⟩:∃w1,w1=w.alloc (bH qj 0 ⟨#[]⟩ (.slice O 0 0) (.slice O 0 0) 0 0 0 Zb Zb Zb (.pointer O)):=⟨_,rfl⟩
 have aC:ax w1 V b g cap T i d (-1):=by rw[dE];exact h.alloc _
 have HD:=aa (Ea hinn aC kl);have lX:=aa hinn;have tK:XX (w1.heap[w.heap.size]?=Za (bH qj 0 ⟨#[]⟩ (.slice O 0 0) (.slice O 0 0) 0 0 0 Zb Zb Zb (.pointer O))):=by show _=_;rw[dE];exact aE rfl
 have aT:XX (ab b w w1):=by show ab _ _ _;rw[dE];exact(ab.refl b w).alloc _
 clear h hV hinn aC hs;subst dE;go_enter func193,ntmps193;go_wp2_with fail;refine Ze HD.o ?_;rintro e w2 ⟨rfl,ce,cP⟩;have dc:=(ce.block _ (al tK.o) (by intro e;injection e with e;have:=aR.o;omega)).trans tK.o;obtain⟨j2,bad2,bb,Su⟩:∃(j2:Zc) (bad2:Zf),ax w2 V b g cap T j2 (d+1) bad2/\((bad2=-1/\j2=i+1/\∃f,inn=Za f/\lS 59 #[.int .i64 0] V b g cap T (d+1) f.2)\/(∃bd:Zc,bad2=bd/\tY T inn i=.error bd)):=by
  cases inn with
  |none=>exact⟨_,_,cP.o,Zi ⟨_,rfl,rfl⟩⟩
  |some f=>exact⟨_,_,cP.o,Zg ⟨rfl,rfl,f,rfl,lX.o.2.2⟩⟩
 obtain⟨B0,pT⟩:∃B,(decide (bad2<0)&&ag T j2 eU)=B:=⟨_,rfl⟩
 obtain⟨B1,dX⟩:∃B,(decide (bad2<0)&&ag T j2 eV)=B:=⟨_,rfl⟩
 have zg:=l6 bb 0 (by omega) eU;rw[Zn,pT]at zg;have jG:=aa zg;have gv:=aa (kH bb ⟨#[42]⟩ dX);have aY:XX (ab b w w2):=aT.o.trans ce;have Op:=aa dc;have Gn:=aa Su;have tL:=aa pT;have gU:=aa dX;clear cP zg ce bb dc Su pT dX HD aT tK;go_wp2_with fail;refine Ze jG.o ?_;rintro e w2' ⟨rfl,mS⟩;subst mS;go_wp2_with fail;refine Ze gv.o ?_;rintro e w3 ⟨rfl,ap,bk⟩;have yd:=aa ((ap.block _ (al Op.o) (by intro e;injection e with e;have:=aR.o;omega)).trans Op.o);have bo:XX (ab b w w3):=aY.o.trans ap;clear ap jG gv;cases B1
 .obtain⟨B2,bZ⟩:∃B,(decide (bad2<0)&&ag T j2 kW)=B:=⟨_,rfl⟩
  have gw:=aa (kH bk ⟨#[63]⟩ bZ);have dV:=aa bZ;clear bZ bk;go_wp2_with fail;refine Ze gw.o ?_;rintro e w4 ⟨rfl,aB,bg⟩;have pF:=aa ((aB.block _ (al yd.o) (by intro e;injection e with e;have:=aR.o;omega)).trans yd.o);have bq:XX (ab b w w4):=bo.o.trans aB;clear aB gw;cases B0
  .obtain⟨c0,c3,c4,cf⟩:=kU pF.o;obtain⟨c5,c6,c7,c8,c9,c10⟩:=Cr pF.o;cases B2
   .have hI:Om V b g cap T i d inn w 3 (.int .i64 0) (w4.setCell ⟨w.heap.size,0,O⟩ (.string oO)):=by
     refine⟨0,0,0,Zb,Zb,j2,rfl,rfl,np bq.o (Zh _),Fu pF.o oO,?_⟩;rcases Gn.o with⟨rfl,rfl,f,rfl,aO⟩|⟨bd,rfl,hr⟩
     .exact Zg ⟨f,rfl,by have:=tL.o;simpa using this,by have:=gU.o;simpa using this,by have:=dV.o;simpa using this,bg.setN aR.o iJ.o HV.o _ _,by omega,Zg ⟨rfl,rfl,rfl,rfl,rfl,rfl⟩⟩
     .exact Zi ⟨rfl,bd,hr,bg.setN aR.o iJ.o HV.o _ _⟩
    have HI:=aa hI;clear hI bg c3 c4 c5 c6 c7 c8 c9 c10;go_wp2_with fail;clear c0 cf;go_loopg [8] 3 (λgh kv wr=>Om V b g cap T i d inn w gh kv wr)
    case atStart=>exact HI.o
    case round=>
     obtain⟨k,n0,n1,i0,i1,j,rfl,mL,aM,cd,eo⟩:=hrel;have dI:=aa aM;have iy:=aa cd;obtain⟨x0,x3,x4,xf⟩:=kU cd;obtain⟨x5,x6,x7,x8,x9,x10⟩:=Cr cd;have md:=al cd;clear aM cd HI x3 x4;rcases eo with⟨f,rfl,s1,s2,s3,hp,ej,kL⟩|⟨rfl,bad,hr,hp⟩
     .obtain⟨k0,k1,k2,k3,kf⟩:=gE hp.blk;have jL:=hp.il;obtain⟨x,hx⟩:∃x,T[j]?=Za x:=⟨T[j]'jL,List.getElem?_eq_getElem jL⟩
      obtain⟨t,at'⟩:=x;obtain⟨q,_,y0,y1,y2,y3,y4⟩:=hp.row.cells hx;have aL:=aa (Ao hx);have tJ:XX (j+1=T.length->t.kind=101\/t.kind=120):=λhe=>hp.last j _ hx he
      have HP:=aa hp;have HS:XX (ag T (i+1) eU=Zb/\ag T (i+1) eV=Zb/\ag T (i+1) kW=Zb):=⟨s1,s2,s3⟩
      have sd:=aa kL;clear hp hx s1 s2 s3 y1 y2 y4 k2;rcases sd.o with⟨rfl,rfl,rfl,rfl,rfl,rfl⟩|⟨rfl,rfl,rfl,p1,ae,cU,rfl⟩|⟨rfl,p1,p2,ae,cU,ah,eK,rfl⟩
      .go_wp2_with fail
       go_region
       go_upto_if 41 with(fail)
       go_cut[] (λwx=>∃p nv iv,XX (Kk T (i+1) t nv iv p/\(t.kind=110->True))/\ax wx V b g cap T p (d+1) (-1)/\wx.heap[w.heap.size]?=Za (bH oO 0 ⟨#[]⟩ (.slice O 0 0) (.slice O 0 0) nv 0 0 iv Zb Zb (.pointer O))/\ab b w wx)
       case first=>
        by_cases hk:t.kind=110
        .have e110:(t.kind==110)=Zd:=Zq.2 hk;have qL:(i+1)+1<T.length:=by
          rcases Zr ((i+1)+1) T.length with h|h
          .exact h
          .have:=tJ.o (by omega);omega
         go_wp2_with fail
         go_region
         go_wp2_with fail
         go_region
         go_wp2_with fail;go_meet
         case rel=>
          have hN:=MX aR.o iJ.o HV.o HP.o dI.o 5 8 (.int .i64 t.num) (.bool Zd) qL;exact⟨_,t.num,Zd,⟨Zg ⟨hk,rfl,rfl,rfl⟩,λ_=>trivial⟩,hN.1,Fv (agz (agx iy.o t.num) Zd) aR.o,hN.2⟩
        .have e110:(t.kind==110)=Zb:=Zp.2 hk;go_wp2_with fail;go_meet
         case rel=>exact⟨_,0,Zb,⟨Zi ⟨hk,rfl,rfl,rfl⟩,λh=>Zk h hk⟩,HP.o.drew,iy.o,dI.o.drew⟩
       case rest=>
        obtain⟨p,nv,iv,vL,nx,pY,xp⟩:=hcut;have ju:XX (aZ T (i+1)=(nv,iv,p)/\i+1<=p):=by
         rcases vL.o.1 with⟨h1,rfl,rfl,rfl⟩|⟨h1,rfl,rfl,rfl⟩
         .exact⟨by rw[GL (by rw[aL.o.1];exact h1),aL.o.1],by omega⟩
         .exact⟨GK (by rw[aL.o.1];exact h1),by omega⟩
        obtain⟨z0',z3,z4,zf⟩:=kU pY;have z0:wc.cell? ⟨w.heap.size,0,O⟩=Za (.string ⟨#[97,116]⟩):=z0';obtain⟨z5,z6,z7,z8,z9,z10⟩:=Cr pY;obtain⟨l0,l1,l2,l3,lf⟩:=gE nx.blk;obtain⟨B,hB⟩:∃B,ag T p fo=B:=⟨_,rfl⟩
        have hS:=l6 nx 0 (by omega) fo;rw[show(decide ((-1:Zf)<0)&&ag T (p+0) fo)=B by rw[Zn,hB];rfl]at hS;have DD:=aa hS;have HB:=aa hB;have sw:=aa nx;have tD:=aa pY;have uY:=aa xp;clear hS hB nx pY xp x0 xf x5 x6 x7 x8 x9 x10 k0 k1 k3 kf y0 y3 z0' z3 z4 l0 l2 l3;go_wp2_with fail;refine Ze DD.o ?_;rintro e wc' ⟨rfl,mS⟩;subst mS;cases B
        .cases iv
         .have iz:=yW sw.o;rw[if_pos (by omega)]at iz;have HF:=aa iz;clear iz;go_wp2_with fail;refine Ze HF.o ?_;rintro e w5 ⟨rfl,bP,dB⟩;have cw:=(bP.block _ (al tD.o) (by intro e;injection e with e;have:=aR.o;omega)).trans tD.o;obtain⟨v0',v3,v4,vf⟩:=kU cw;have v0:w5.cell? ⟨w.heap.size,0,O⟩=Za (.string ⟨#[97,116]⟩):=v0';have BY:p=i+1:=by
           rcases vL.o.1 with⟨h1,h2,h3,h4⟩|⟨h1,h2,h3,h4⟩
           .cases h3
           .exact h4
          have i9:=aa (vh (i:=i) (inn:=Za f) aR.o aV.o cw (Zi ⟨bE T p,p,by show fH T f (i+1)=_;rw[afI HS.o.1 HS.o.2.1 HS.o.2.2 ju.o.1 HB.o,BY],dB⟩));have gM:XX (ab b w w5):=uY.o.trans bP;clear bP dB cw v0' v3 v4 BY;go_wp2_with fail;refine Ze i9.o ?_;rintro e w8 ⟨rfl,bG,hf⟩;have ib:=aa bG;have d6:=aa hf.o;clear bG hf;go_wp2;go_ret;exact⟨_,rfl,gM.o.trans ib.o,d6.o⟩
         .have i9:=aa (vh (i:=i) (inn:=Za f) aR.o aV.o tD.o (Zg ⟨p,sw.o,by have:=ju.o.2;omega,afF HS.o.1 HS.o.2.1 HS.o.2.2 ju.o.1 HB.o⟩));go_wp2_with fail;refine Ze i9.o ?_;rintro e w8 ⟨rfl,bG,hf⟩;have ib:=aa bG;have d6:=aa hf.o;clear bG hf;go_wp2;go_ret;exact⟨_,rfl,uY.o.trans ib.o,d6.o⟩
        .have qL:=tz sw.o HB.o;have pd:=ju.o.2;go_wp2;go_roundg (gk-1)
         case measure=>omega
         case rel=>
          have h1:ab b w ((wc'.setCell ⟨b,1,O⟩ (.int .i64 ((p:Zf)+1))).setCell ⟨w.heap.size,0,O⟩ (.string j7)):=np (uY.o.setCell 1 _) (Zh _);exact⟨1,nv,0,iv,Zb,p+1,rfl,by omega,h1,Fu (Fv tD.o aR.o) j7,Zg ⟨f,rfl,HS.o.1,HS.o.2.1,HS.o.2.2,(sw.o.setI (p+1) qL).setN aR.o iJ.o HV.o 0 (.string j7),by omega,Zi (Zg ⟨rfl,rfl,rfl,p,ju.o.1,HB.o,rfl⟩)⟩⟩
      .go_wp2_with fail
       go_region
       go_upto_if 41 with(fail)
       go_cut[] (λwx=>∃p nv iv,XX (Kk T (p1+1) t nv iv p/\(t.kind=110->True))/\ax wx V b g cap T p (d+1) (-1)/\wx.heap[w.heap.size]?=Za (bH j7 0 ⟨#[]⟩ (.slice O 0 0) (.slice O 0 0) n0 nv 0 i0 iv Zb (.pointer O))/\ab b w wx)
       case first=>
        by_cases hk:t.kind=110
        .have e110:(t.kind==110)=Zd:=Zq.2 hk;have qL:(p1+1)+1<T.length:=by
          rcases Zr ((p1+1)+1) T.length with h|h
          .exact h
          .have:=tJ.o (by omega);omega
         go_wp2_with fail
         go_region
         go_wp2_with fail
         go_region
         go_wp2_with fail;go_meet
         case rel=>
          have hN:=MX aR.o iJ.o HV.o HP.o dI.o 6 9 (.int .i64 t.num) (.bool Zd) qL;exact⟨_,t.num,Zd,⟨Zg ⟨hk,rfl,rfl,rfl⟩,λ_=>trivial⟩,hN.1,Fv (agA (agy iy.o t.num) Zd) aR.o,hN.2⟩
        .have e110:(t.kind==110)=Zb:=Zp.2 hk;go_wp2_with fail;go_meet
         case rel=>exact⟨_,0,Zb,⟨Zi ⟨hk,rfl,rfl,rfl⟩,λh=>Zk h hk⟩,HP.o.drew,iy.o,dI.o.drew⟩
       case rest=>
        obtain⟨p,nv,iv,vL,nx,pY,xp⟩:=hcut;have ju:XX (aZ T (p1+1)=(nv,iv,p)/\i+1<=p):=by
         rcases vL.o.1 with⟨h1,rfl,rfl,rfl⟩|⟨h1,rfl,rfl,rfl⟩
         .exact⟨by rw[GL (by rw[aL.o.1];exact h1),aL.o.1],by omega⟩
         .exact⟨GK (by rw[aL.o.1];exact h1),by omega⟩
        obtain⟨z0',z3,z4,zf⟩:=kU pY;have z0:wc.cell? ⟨w.heap.size,0,O⟩=Za (.string ⟨#[115,108,105,99,101]⟩):=z0';obtain⟨z5,z6,z7,z8,z9,z10⟩:=Cr pY;obtain⟨l0,l1,l2,l3,lf⟩:=gE nx.blk;obtain⟨B,hB⟩:∃B,ag T p fo=B:=⟨_,rfl⟩
        have hS:=l6 nx 0 (by omega) fo;rw[show(decide ((-1:Zf)<0)&&ag T (p+0) fo)=B by rw[Zn,hB];rfl]at hS;have DD:=aa hS;have HB:=aa hB;have sw:=aa nx;have tD:=aa pY;have uY:=aa xp;clear hS hB nx pY xp x0 xf x5 x6 x7 x8 x9 x10 k0 k1 k3 kf y0 y3 z0' z3 z4 l0 l2 l3;go_wp2_with fail;refine Ze DD.o ?_;rintro e wc' ⟨rfl,mS⟩;subst mS;cases B
        .have i9:=aa (vh (i:=i) (inn:=Za f) aR.o aV.o (IF (II tD.o 1) Zd) (Zg ⟨p,(sw.o.setN aR.o iJ.o HV.o 7 (.int .i64 1)).setN aR.o iJ.o HV.o 10 (.bool Zd),by have:=ju.o.2;omega,afM HS.o.1 HS.o.2.1 HS.o.2.2 ae cU ju.o.1 HB.o⟩));have fU:XX (ab b w ((wc'.setCell ⟨w.heap.size,7,O⟩ (.int .i64 1)).setCell ⟨w.heap.size,10,O⟩ (.bool Zd))):=np (np uY.o (Zh _)) (Zh _);go_wp2_with fail;refine Ze i9.o ?_;rintro e w8 ⟨rfl,bG,hf⟩;have ib:=aa bG;have d6:=aa hf.o;clear bG hf;go_wp2;go_ret;exact⟨_,rfl,fU.o.trans ib.o,d6.o⟩
        .have qL:=tz sw.o HB.o;have pd:=ju.o.2;go_wp2;go_roundg (gk-1)
         case measure=>omega
         case rel=>
          have h1:ab b w ((wc'.setCell ⟨b,1,O⟩ (.int .i64 ((p:Zf)+1))).setCell ⟨w.heap.size,0,O⟩ (.string j7)):=np (uY.o.setCell 1 _) (Zh _);exact⟨2,n0,nv,i0,iv,p+1,rfl,by omega,h1,Fu (Fv tD.o aR.o) j7,Zg ⟨f,rfl,HS.o.1,HS.o.2.1,HS.o.2.2,(sw.o.setI (p+1) qL).setN aR.o iJ.o HV.o 0 (.string j7),by omega,Zi (Zi ⟨rfl,p1,p,ae,cU,ju.o.1,HB.o,rfl⟩)⟩⟩
      .go_wp2_with fail
       go_region
       go_upto_if 41 with(fail)
       go_cut[] (λwx=>∃p nv iv,XX (Kk T (p2+1) t nv iv p/\(t.kind=110->t.num≠0))/\ax wx V b g cap T p (d+1) (-1)/\wx.heap[w.heap.size]?=Za (bH j7 0 ⟨#[]⟩ (.slice O 0 0) (.slice O 0 0) n0 n1 nv i0 i1 iv (.pointer O))/\ab b w wx)
       case first=>
        by_cases hk:t.kind=110
        .have e110:(t.kind==110)=Zd:=Zq.2 hk;have qL:(p2+1)+1<T.length:=by
          rcases Zr ((p2+1)+1) T.length with h|h
          .exact h
          .have:=tJ.o (by omega);omega
         by_cases hz:t.num=0
         .have ez:(t.num==0)=Zd:=Zq.2 hz;have iz:=yW HP.o.drew.drew;rw[if_pos (by omega),aL.o.2]at iz;have HF:=aa iz;clear iz;go_wp2_with fail
          go_region
          go_wp2_with fail;refine Ze HF.o ?_;rintro e w5 ⟨rfl,bP,dB⟩;have jm:ab b w w5:=dI.o.drew.drew.trans bP;have cw:w5.heap[w.heap.size]?=_:=(bP.block _ md (by intro e;injection e with e;have:=aR.o;omega)).trans iy.o;obtain⟨v0',v3,v4,vf⟩:=kU cw;obtain⟨v5,v6,v7,v8,v9,v10⟩:=Cr cw;have v0:w5.cell? ⟨w.heap.size,0,O⟩=Za (.string ⟨#[115,108,105,99,101]⟩):=v0';have i9:=aa (vh (i:=i) (inn:=Za f) aR.o aV.o (IF (II cw 1) Zd) (Zi ⟨at',p2+1,by show fH T f (i+1)=_;rw[afG HS.o.1 HS.o.2.1 HS.o.2.2 ae cU ah eK (by rw[aL.o.1];exact hk) (by rw[aL.o.1];exact hz),aL.o.2],(dB.setN aR.o iJ.o HV.o 7 (.int .i64 1)).setN aR.o iJ.o HV.o 10 (.bool Zd)⟩));have fU:XX (ab b w ((w5.setCell ⟨w.heap.size,7,O⟩ (.int .i64 1)).setCell ⟨w.heap.size,10,O⟩ (.bool Zd))):=np (np jm (Zh _)) (Zh _);clear bP dB jm cw v0' v3 v4 v5 v6 v8 v9;go_wp2_with fail;refine Ze i9.o ?_;rintro e w8 ⟨rfl,bG,hf⟩;have ib:=aa bG;have d6:=aa hf.o;clear bG hf;go_wp2;go_ret;exact⟨_,rfl,fU.o.trans ib.o,d6.o⟩
         .have ez:(t.num==0)=Zb:=Zp.2 hz;go_wp2_with fail
          go_region
          go_wp2_with fail
          go_region
          go_wp2_with fail;go_meet
          case rel=>
           have hN:=MX aR.o iJ.o HV.o HP.o dI.o 7 10 (.int .i64 t.num) (.bool Zd) qL;exact⟨_,t.num,Zd,⟨Zg ⟨hk,rfl,rfl,rfl⟩,λ_=>hz⟩,hN.1,Fv (IF (II iy.o t.num) Zd) aR.o,hN.2⟩
        .have e110:(t.kind==110)=Zb:=Zp.2 hk;go_wp2_with fail;go_meet
         case rel=>exact⟨_,0,Zb,⟨Zi ⟨hk,rfl,rfl,rfl⟩,λh=>Zk h hk⟩,HP.o.drew,iy.o,dI.o.drew⟩
       case rest=>
        obtain⟨p,nv,iv,vL,nx,pY,xp⟩:=hcut;have ju:XX (aZ T (p2+1)=(nv,iv,p)/\i+1<=p):=by
         rcases vL.o.1 with⟨h1,rfl,rfl,rfl⟩|⟨h1,rfl,rfl,rfl⟩
         .exact⟨by rw[GL (by rw[aL.o.1];exact h1),aL.o.1],by omega⟩
         .exact⟨GK (by rw[aL.o.1];exact h1),by omega⟩
        obtain⟨z0',z3,z4,zf⟩:=kU pY;have z0:wc.cell? ⟨w.heap.size,0,O⟩=Za (.string ⟨#[115,108,105,99,101]⟩):=z0';obtain⟨z5,z6,z7,z8,z9,z10⟩:=Cr pY;obtain⟨l0,l1,l2,l3,lf⟩:=gE nx.blk;obtain⟨B,hB⟩:∃B,ag T p fo=B:=⟨_,rfl⟩
        have hS:=l6 nx 0 (by omega) fo;rw[show(decide ((-1:Zf)<0)&&ag T (p+0) fo)=B by rw[Zn,hB];rfl]at hS;have DD:=aa hS;have HB:=aa hB;have sw:=aa nx;have tD:=aa pY;have uY:=aa xp;clear hS hB nx pY xp x0 xf x5 x6 x7 x8 x9 x10 k0 k1 k3 kf y0 y3 z0' z3 z4 l0 l2 l3;go_wp2_with fail;refine Ze DD.o ?_;rintro e wc' ⟨rfl,mS⟩;subst mS;have pd:=ju.o.2;cases iv
        .have ma:(bp T (p2+1)).kind≠110/\p=p2+1/\nv=0:=by
          rcases vL.o.1 with⟨h1,h2,h3,h4⟩|⟨h1,h2,h3,h4⟩
          .cases h3
          .exact⟨by rw[aL.o.1];exact h1,h4,h2⟩
         have i9:=aa (vh (i:=i) (inn:=Za f) aR.o aV.o (IF (II tD.o 1) Zd) (Zg ⟨p,(sw.o.setN aR.o iJ.o HV.o 7 (.int .i64 1)).setN aR.o iJ.o HV.o 10 (.bool Zd),by omega,by rw[ma.2.1];exact afL HS.o.1 HS.o.2.1 HS.o.2.2 ae cU ah eK ma.1⟩));have fU:XX (ab b w ((wc'.setCell ⟨w.heap.size,7,O⟩ (.int .i64 1)).setCell ⟨w.heap.size,10,O⟩ (.bool Zd))):=np (np uY.o (Zh _)) (Zh _);clear ma;cases B
         all_goals
          go_wp2_with fail;refine Ze i9.o ?_;rintro e w8 ⟨rfl,bG,hf⟩;have ib:=aa bG;have d6:=aa hf.o;clear bG hf;go_wp2;go_ret;exact⟨_,rfl,fU.o.trans ib.o,d6.o⟩
        .have ma:(bp T (p2+1)).kind=110/\p=p2+1+1/\nv=(bp T (p2+1)).num/\(bp T (p2+1)).num≠0:=by
          rcases vL.o.1 with⟨h1,h2,h3,h4⟩|⟨h1,h2,h3,h4⟩
          .exact⟨by rw[aL.o.1];exact h1,h4,by rw[aL.o.1];exact h2,by rw[aL.o.1];exact vL.o.2 h1⟩
          .cases h3
         have i9:=aa (vh (i:=i) (inn:=Za f) aR.o aV.o tD.o (Zg ⟨p,sw.o,by omega,by rw[ma.2.1];exact afK HS.o.1 HS.o.2.1 HS.o.2.2 ae cU ah eK ma.1 ma.2.2.2 ma.2.2.1⟩));clear ma;cases B
         all_goals
          go_wp2_with fail;refine Ze i9.o ?_;rintro e w8 ⟨rfl,bG,hf⟩;have ib:=aa bG;have d6:=aa hf.o;clear bG hf;go_wp2;go_ret;exact⟨_,rfl,uY.o.trans ib.o,d6.o⟩
     .have hn:¬((bad:Zf)<0):=by omega
      obtain⟨k0,k1,k2,k3,kf⟩:=gE hp.blk;have x0':wr.cell? ⟨w.heap.size,0,O⟩=Za (.string ⟨#[97,116]⟩):=x0;have i9:=aa (vh (i:=i) (inn:=inn) aR.o aV.o iy.o (Zi ⟨bad,j,hr,hp⟩));clear hp x0 x5 x6 x7 x8 x9 x10 k0 k1 k2 hr;go_wp2_with fail;refine Ze i9.o ?_;rintro e w8 ⟨rfl,bG,hf⟩;have ib:=aa bG;have d6:=aa hf.o;clear bG hf;go_wp2;go_ret;exact⟨_,rfl,dI.o.trans ib.o,d6.o⟩
   .have ah:bad2<0/\ag T j2 kW=Zd:=by have:=dV.o;simpa using this
    rcases Gn.o with⟨rfl,rfl,f,rfl,aO⟩|⟨bd,rfl,_⟩
    .have Cd:ag T (i+1) eU=Zb:=by have:=tL.o;simpa using this
     have eo:ag T (i+1) eV=Zb:=by have:=gU.o;simpa using this
     have Ex:=ah.2;have fU:XX (ab b w (w4.setCell ⟨w.heap.size,0,O⟩ (.string om))):=np bq.o (Zh _);have Oq:=aa (Fu pF.o om);have hws:w.heap.size<w4.heap.size:=al pF.o;have dT:=aa (aO _ (i+1+1) (bg.setN aR.o iJ.o HV.o 0 (.string om)) (λm hm=>by have:=HV.o m hm;simp[Zo];omega));have ou:XX (ag T (i+1) eU=Zb/\ag T (i+1) eV=Zb/\ag T (i+1) kW=Zd):=⟨Cd,eo,Ex⟩
     clear bg aO Cd eo Ex ah c3 c4 c5 c6 c7 c8 c9 c10;go_wp2_with fail;refine Ze dT.o ?_;rintro e w5 ⟨p,rfl,dJ,Mb⟩;have hI:(∃m,p=.pointer (Za ⟨m,0,O⟩)):=by
      rcases Mb with⟨y,j4,hy,j5,dB,fc⟩|⟨bad5,j4,hy,dB,fc⟩
      .obtain⟨m4,e4,_⟩:=fc.o.ptr;exact⟨m4,e4⟩
      .obtain⟨m4,e4,_⟩:=fc.o.ptr;exact⟨m4,e4⟩
     obtain⟨m5,rfl⟩:=hI;have cw:=(dJ.block _ (al Oq.o) (by intro e;injection e with e;have:=aR.o;omega)).trans Oq.o;have im:w4.heap.size<=w5.heap.size:=by have:=dJ.size;simpa[Zo]using this
     obtain⟨f0,f3,f4,ff⟩:=kU (cj (o:=.cells #[.pointer (Za ⟨m5,0,O⟩)] 68) cw);obtain⟨w6,fG⟩:∃w6,w6=(w5.alloc (.cells #[.pointer (Za ⟨m5,0,O⟩)] 68)).setCell ⟨w.heap.size,4,O⟩ (.slice (Za ⟨w5.heap.size,0,O⟩) 1 1):=⟨_,rfl⟩
     have ya:XX (ab b w w6):=by show ab _ _ _;rw[fG];exact np ((fU.o.trans dJ).alloc _) (Zh _)
     have fk:w6.heap[w.heap.size]?=Za (bH om 0 ⟨#[]⟩ (.slice O 0 0) (.slice (Za ⟨w5.heap.size,0,O⟩) 1 1) 0 0 0 Zb Zb Zb (.pointer O)):=by rw[fG];exact IG (cj cw) _
     have vI:∀m,m<w5.heap.size->m≠w.heap.size->w6.heap[m]?=w5.heap[m]?:=by
      intro m hm hn;rw[fG,Zm _ _ _ _ (by simpa using hn)];exact Below.heap_alloc _ _ _ hm
     have i9:=aa (PI (i:=i) (inn:=Za f) (d:=d) (g:=g) (cap:=cap) (T:=T) (V:=V) (ps:=[.pointer (Za ⟨m5,0,O⟩)]) (l:=match f.2 (i+1+1)with|.ok y=>[y.1]|.error _=>[]) aR.o aV.o fk (by
      rcases Mb with⟨y,j4,hy,j5,dB,fc⟩|⟨bad5,j4,hy,dB,fc⟩
      .refine Zg ⟨j4,dB.keep (λm o hm ho=>vI m (al ho) (by rcases hm with rfl|rfl|hm;have:=aR.o;omega;have:=iJ.o;omega;have:=HV.o m hm;omega)),⟨?_,λg hg=>?_⟩,?_,by omega,?_⟩
       .rw[fG];refine ao.same (wo w5 68 [.pointer (Za ⟨m5,0,O⟩)] (by unfold maxLen;simp)) (λk hk=>Zm _ _ _ _ ?_);have e:w5.heap.size=k:=by simpa[Zt]using hk
        simp;omega
       .have e:w5.heap.size=g:=by simpa[Zt]using hg
        omega
       .rw[hy.o];refine Ft (aJ.keep (λm o hm ho=>⟨vI m (al ho) ?_,hm.imp_right λh=>?_⟩) _ _ fc.o)
        .rcases hm with h|h
         .have:=HV.o m h;omega
         .simp[Zo]at h;omega
        .simp[Zo]at h;omega
       .show fH T f (i+1)=_;rw[afD ou.o.1 ou.o.2.1 ou.o.2.2 hy.o,hy.o];rfl
      .refine Zi ⟨bad5,j4,afE ou.o.1 ou.o.2.1 ou.o.2.2 hy.o,dB.keep (λm o hm ho=>vI m (al ho) (by rcases hm with rfl|rfl|hm;have:=aR.o;omega;have:=iJ.o;omega;have:=HV.o m hm;omega))⟩))
     have AU:=aa fG;clear Mb dJ cw fk vI f0 f3 c0 cf fG;go_wp2_with fail;rw[<-AU.o];refine Ze i9.o ?_;rintro e w8 ⟨rfl,bG,hf⟩;have ib:=aa bG;have d6:=aa hf.o;clear bG hf;go_wp2;go_ret;exact⟨_,rfl,ya.o.trans ib.o,d6.o⟩
    .exact Zk ah.1 (by omega)
  .have ah:bad2<0/\ag T j2 eU=Zd:=by have:=tL.o;simpa using this
   rcases Gn.o with⟨rfl,rfl,f,rfl,aO⟩|⟨bd,rfl,_⟩
   .have Ex:=UH ah.2 (show eU≠kW by decide);have bZ:B2=Zb:=by have:=dV.o;rw[Ex]at this;simpa using this.symm
    subst bZ;have i9:=aa (vh (i:=i) (inn:=Za f) aR.o aV.o pF.o (Zg ⟨i+1,bg,by omega,afH ah.2⟩));clear bg aO Ex;go_wp2_with fail;refine Ze i9.o ?_;rintro e w8 ⟨rfl,bG,hf⟩;have ib:=aa bG;have d6:=aa hf.o;clear bG hf;go_wp2;go_ret;exact⟨_,rfl,bq.o.trans ib.o,d6.o⟩
   .exact Zk ah.1 (by omega)
 .have ah:bad2<0/\ag T j2 eV=Zd:=by have:=gU.o;simpa using this
  rcases Gn.o with⟨rfl,rfl,f,rfl,aO⟩|⟨bd,rfl,_⟩
  .have Cd:=UH ah.2 (show eV≠eU by decide);have pT:B0=Zb:=by have:=tL.o;rw[Cd]at this;simpa using this.symm
   subst pT;obtain⟨c0,c3,c4,cf⟩:=kU yd.o;have i9:=aa (vh (i:=i) (inn:=Za f) aR.o aV.o (Fu yd.o pA) (Zg ⟨i+1+1,bk.setN aR.o iJ.o HV.o 0 (.string pA),by omega,afJ Cd ah.2⟩));have fU:XX (ab b w (w3.setCell ⟨w.heap.size,0,O⟩ (.string pA))):=np bo.o (Zh _);clear bk aO Cd c3 c4;go_wp2_with fail;refine Ze i9.o ?_;rintro e w8 ⟨rfl,bG,hf⟩;have ib:=aa bG;have d6:=aa hf.o;clear bG hf;go_wp2;go_ret;exact⟨_,rfl,fU.o.trans ib.o,d6.o⟩
  .exact Zk ah.1 (by omega)
end Go.Proofs.YtdlgkgfeoiohiaaGreatDoor
