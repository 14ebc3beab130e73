/- Part 36. -/
import Derived.Test.YtdlgkgfeoiohiaaGreatDoorA34
import Derived.Test.YtdlgkgfeoiohiaaGreatDoorA35
open Array renaming toList_setIfInBounds -> ZI
open Bool renaming false -> Ze,true -> Zp,false_eq_true -> ZJ
open Go renaming Value -> Zd,World -> Zk,Calls -> Zr,Addr -> Zt
open Go.Calls renaming mono -> Zh
open Go.Proofs renaming enters_of -> ZH
open Go.RowKit renaming Below -> Zf
open Go.RowKit.Below renaming heap_setCell -> Zq,refl -> Zu,heap_alloc -> Zx
open Go.Value renaming ownBlock -> Zo,slice -> ZE
open Go.World renaming cell? -> Zl,setCell -> ZA,frozen? -> ZB,ownsRow_nil -> ZU
open Go.World.ownsRow renaming alloc -> ZG,cells -> ZW
open List renaming mem_cons -> Zz,getElem?_eq_getElem -> ZC,mem_singleton -> ZD,cons_append -> ZK,length_map -> ZL,nil_append -> ZM,not_mem_nil -> ZN,set_eq_of_length_le -> ZO,take_add_one -> ZP,take_set -> ZQ
open Nat renaming le_refl -> Zj,le_trans -> Zw
open Option renaming some -> O,none -> Za
open _root_ renaming Nat -> Zb,List -> Zc,ByteArray -> Zg,Int -> Zi,if_neg -> Zm,if_pos -> Zn,Bool -> Zv,Except -> Zy,decide_eq_false -> ZV
namespace Go.Proofs.YtdlgkgfeoiohiaaGreatDoor
set_option linter.unusedVariables false
set_option maxHeartbeats 16000000
set_option maxRecDepth 100000
open Go.RowKit J Go.Proofs.Tryz
variable {c a bx n m N gg cap cx:Zb}{s:Zg}{l:Zc Nd}{sl x:Zd}{ps new:Zc Zd}{w w2:Zk}{K:Zc Zb}{ex:Zb->PR}{A:Zb->Prop}{y:Nd}{ob:Obj}
theorem afv:(prog.info? 305).map (λi=>(i.zero,i.size,i.bytes))=O (O (.agg #[.string ⟨#[]⟩,.nilIface]),2,32):=by kernel_rfl
def TM(ks:Zc Zg):wX:=λW v xs=>oy W v ks xs
theorem Ap(ks:Zc Zg):GA (TM ks):=⟨λh hs=>oy.same h hs,λh hk=>oy.lt h hk⟩
theorem aaV{ops:Array Oper}{rest:Zc Oper}{o:Oper}{a:Act}{Q:Exit->Act->Zk->Prop}(hgd:o.guard=Za)(s x:Operand)
 (ho:o.op=.call { callee:=.builtin .append,args:=#[s,x],argTypes:=#[303,303] })
 (v:Zd) (ks:Zc Zg) (xs:Zc Zd) (hs:a.eval s=v) (am:oy w v ks xs) (ad:Zt) (c:Zb) (key:Zg) (nv:Zd) (hx:a.eval x=.slice (O ad) 1 c)
 (hk:w.cell? (ad.add 0)=O (.string key)) (hv:w.cell? (ad.add 1)=O nv) (h1:nv.oneCell'=Zp) (hl:xs.length<=1000000) (H:Zb) (hH:w.heap.size=H)
 (h:∀g cap w',oy w' (.slice (O ⟨g,0,Za⟩) (xs.length+1) cap) (ks++[key]) (xs++[nv])->w.grownBy w' v.ownBlock->(v.ownBlock=O g\/g=H)->g<w'.heap.size->wpList prog ops Q rest (a.put o.dst (.slice (O ⟨g,0,Za⟩) (xs.length+1) cap)) w'):wpList prog ops Q (o::rest) a w:=by
 obtain⟨i0,hi,ip,ee,dP⟩:=info_parts afv;have hb:(xs.length+1)*32<=140737488355328:=by omega
 refine wpList_append_lies _ hgd s x 303 ho 0 305 i0 (.agg #[.string ⟨#[]⟩,.nilIface]) 2 32 underlying303 hi ip ee dP (by rfl) (by decide) v xs.length (mv ks xs) hs am.2 ad 1 c [.string key,nv] hx (by simp) ?_ ?_ (by omega) (by unfold maxLen;omega) hb (Zb.zero_le _) H hH ?_
 .intro j u hj
  match j,hj with
  |0,hj=>simp at hj;subst hj;exact hk
  |1,hj=>simp at hj;subst hj;exact hv
 .intro u hu;simp at hu;rcases hu with rfl|rfl
  .rfl
  .exact h1
 .intro g cap w' r1 r2 r3 r4;refine h g cap w' ⟨by simp[am.1],?_⟩ r2 r3 r4;rw[MP ks xs key nv am.1,Zc.length_append];exact r1
section
variable {w w':Zk} {b:Zb} {V:Zb->Prop} {T:Zc (aj×Zb)} {g tc:Zb} {S:Zt} {i:Zb} {d:Zi} {lg:Zv} {cv cv':Zd} {cs:Zc Zd}
def Gv(bx m b:Zb)(V:Zb->Prop)(W:Zk)(cv:Zd)(ks:Zc Zg)(l:Zc Nd)(new:Zc Zd):Prop:=∃sl ps,LV (TM ks) bx m b V (oi 303) W cv l new sl ps
theorem ab7:∀args W,(callFunc 257 args).run prog W=.ok (.enter 257 args) W:=ZH func257 (by kernel_rfl) rfl
theorem LV.wk{RW:wX}{ob:Zd->Obj}(h:LV RW bx m b V ob w cv l new sl ps):AX bx m b ob w:=⟨h.box,_,h.var⟩
theorem alb(hp:dW T ex n 26)(hd:d+(n:Zi)=12)(cy:0<=d)(h0:b<N)(Hi:N<=bx)(h1:bx<m)
 (W:Zk) (cv1:Zd) (cs1:Zc Zd) (lg1:Zv) (ks:Zc Zg) (l:Zc Nd) (new:Zc Zd) (j:Zb) (h:ZS W b V T g tc S j d lg1 cv1 cs1) (hj:j<T.length) (hv:Gv bx m b V W cv1 ks l new) (hN:N<=W.heap.size) (mc:l.length<=j):
 Zr prog 257 #[.pointer (O ⟨bx,0,Za⟩),.pointer (O ⟨m,0,Za⟩)] W λe w'=>∃er i' lg' cv' cs',e=.returned er/\eI er/\ZF N b cv1 cv' W w'/\ZS w' b V T g tc S i' d lg' cv' cs'/\i'<T.length/\AX bx m b (oi 303) w'/\XX (wY (ji T ex j) S er i' lg1 lg' cs1 cs' (Gv bx m b V w' cv') ks l new):=by
 obtain⟨sl,ps,hL⟩:=hv;have AL:=aa (Wa h hj);have HP:=aa hp;have c0:=lz hL.box;have HL:=aa hL;have aV:=aa h.vb;have iE:=h.tl;have em:ps.length<=100000:=by
  have:=bY.len hL.nps;omega
 have R6:m<W.heap.size:=al hL.var;have alP:bx<W.heap.size:=by omega
 obtain⟨RZ,fy⟩:∃RZ,RZ=ji T ex j:=⟨_,rfl⟩
 rw[<-fy];have fs:=aa fy;clear h hp hL fy;go_enter func257,ntmps257;go_wp2_with fail;refine Zh AL.o ?_;rintro e w1 ⟨s,er,i1,rfl,bR,aM,ay,aU,aW⟩;have eH:=aa (HL.o.but (Ap ks) aM aV.o (by omega) (by omega));have c1:=lz eH.o.box;have gO:XX (ZF N b cv1 cv1 W w1):=ZF.of_but aM hN;have eM:=aa ay;rcases aW.o with⟨q0,rfl,q2,q3⟩|⟨q0,rfl⟩
 .subst q3;rw[ji,Zn q0,<-q2,show fo=⟨#[58]⟩from rfl]at fs;have HT:=aa (qk ay aU ⟨#[58]⟩);have eu:XX (∀s,ag T (j+1) s=Zp->j+1+1<T.length):=λs e=>ay.sgn_more aU e
  clear aW q0 q2 bR ay aM c0 AL;by_cases b1:ag T (j+1) ⟨#[58]⟩=Zp
  .have dL:=eu.o _ b1;rw[b1,Zn rfl]at fs;rw[b1]at HT;clear b1;go_wp2_with fail;refine Zh HT.o ?_;rintro e w2 ⟨rfl,aM,cB⟩;simp only[if_true]at cB;have pH:=aa (eH.o.but (Ap ks) aM aV.o (by omega) (by omega));have c2:=lz pH.o.box;have cF:XX (ZF N b cv1 cv1 W w2):=gO.o.trans (ZF.of_but aM (Zw hN gO.o.size));have dN:=aa (HP.o w2 b V g tc S (j+1+1) lg1 cv1 cs1 d hd cy cB dL);unfold cK at dN;have dP:W.heap.size<=w2.heap.size:=cF.o.size;clear cB aM c1 HT;go_wp2_with fail;refine Zh dN.o ?_;rintro e w3 ⟨x,er,i3,lg2,cv2,cs2,rfl,hx,bR,bC,bm,rD,nY⟩;have ld:=aa (pH.o.read (Ap ks) bC aV.o (by omega) (by omega));have eh:XX (ZF N b cv1 cv2 W w3):=cF.o.trans (bC.mono (Zw hN dP));have jb:=aa bm;have ux:=bC.size;have c3:w3.cell? ⟨m,0,Za⟩=O sl:=by simp[Zl,ld.o.var,oi]
   obtain⟨X,hX⟩:∃X,X=x:=⟨_,rfl⟩
   have HX:=aa hX;have pW:X.oneCell'=Zp:=by rw[hX];exact hx.one
   rw[<-hX]at nY;have rb:XX (∀k,sl.ownBlock=O k->k<w2.heap.size):=λk hk=>(Ap ks).lt pH.o.row hk
   have hmz:m<w2.heap.size:=by omega
   clear hX bm bC c2 dN;rcases hx with rfl|⟨tx,vx,rfl⟩
   all_goals
    go_wp2_with (at_builtin;refine aaV rfl (.tmp 24) (.tmp 28) rfl sl ks ps rfl ?h1 _ _ s X rfl ?h2 ?h3 pW ?h4 _ rfl ?_)
    case h1=>exact⟨ld.o.row.1,ZG ld.o.row.2 _⟩
    case h2=>exact(CR rfl).1
    case h3=>rw[HX.o];exact(CR rfl).2
    case h4=>omega
    intro gg cap w4 Fa an cQ ai;have hG:∀u,lT m sl w3 (w4.setCell ⟨m,0,Za⟩ u):=λu=>lT.of an
    have jz:w4.heap[m]?=O (.cells #[sl] 303 (0,0)):=by
     rw[an.block m (by simp;omega) (by intro e;have:=(ld.o.own _ e.symm).1;omega)];exact cj ld.o.var
    have cN:w4.cell? ⟨m,0,Za⟩=O sl:=by simp[Zl,jz]
    have fN:w4.frozen? ⟨m,0,Za⟩=Ze:=by simp[ZB,jz]
    have lI:sl.ownBlock=O gg\/w3.heap.size<gg:=cQ.imp_right (λe=>by have e':gg=w3.heap.size+1:=e;omega);have LM:m<gg:=by
     rcases lI with e|e
     .exact(ld.o.own _ e).1
     .omega
    have HG:=aa hG;have dT:=aa Fa;have so:=aa jz;have wL:=aa lI;clear hG Fa an cQ ai jz lI c3;go_wp2_with fail;go_ret;have hg:=HG.o (.slice (O ⟨gg,0,Za⟩) (ps.length+1) cap);have qd:(w4.setCell ⟨m,0,Za⟩ (.slice (O ⟨gg,0,Za⟩) (ps.length+1) cap)).heap[m]?=O (oi 303 (.slice (O ⟨gg,0,Za⟩) (ps.length+1) cap)):=cY so.o _;refine⟨er,i3,lg2,cv2,cs2,rfl,bR,eh.o.grew hg (by omega) (by omega) (λk hk=>by have:=(ld.o.own k hk).1;omega),jb.o.grew hg (by omega) ld.o.cm.1 (λk hk=>⟨by have:=(ld.o.own k hk).1;omega,(ld.o.own k hk).2⟩),rD,⟨(hg.block _ (al ld.o.box) (by omega) (λe=>by have:=(ld.o.own _ e).1;omega)).trans ld.o.box,_,qd⟩,?_⟩;show wY _ _ _ _ _ _ _ _ _ _ _ _;have hr:=nY.o;rw[fs.o];cases hq:ex (j+1+1)with
    |error p=>rw[hq]at hr;exact hr
    |ok r=>
     rw[hq]at hr;obtain⟨q1,q2,q3,q4,new2,q5,q6⟩:=hr;have oE:cv2.ownBlock≠O gg:=by
      intro e;rcases wL.o with e2|e2
      .exact(ld.o.own _ e2).2 e
      .have:=jb.o.row.lt e;omega
     have kk:∀k,((V k\/w2.heap.size<=k)/\cv2.ownBlock≠O k)->k<w3.heap.size->w3.heap[k]?=w3.heap[k]?/\TB V m cv2 sl k:=λk hk _=>⟨rfl,hk.1.imp_right (λq=>by omega),hk.2,λe=>by
      have e2:=rb.o k e;have e3:=(ld.o.own k e).1;rcases hk.1 with q|q
      .have:=aV.o k q;omega
      .omega⟩
     refine⟨q1,q2,q3,new2,q5,_,ps++[X],ld.o.more (RW':=TM (ks++[s])) hg aV.o (by omega) h1 (by omega) qd ?_ wL.o oE (NP.keep kk _ _ q4) (q6.mono (λa c hac=>hac.keep kk))⟩;refine oy.same dT.o (λk hk=>Zq _ _ _ _ ?_);have e:gg=k:=by simpa[Zo]using hk
     simp;omega
  .rw[Zm b1]at fs;rw[show ag T (j+1) ⟨#[58]⟩=Ze by simpa using b1]at HT;have HW:XX (∀W,ZS W b V T g tc S (j+1) d lg1 cv1 cs1->Zr prog 28 #[.pointer (O ⟨b,0,Za⟩)] W λe w'=>e=.returned (aG S (bE T (j+1)))/\Zf W.heap.size W w'):=λW hW=>uL hW aU
   clear b1;go_wp2_with fail;refine Zh HT.o ?_;rintro e w2 ⟨rfl,aM,cB⟩;simp only[ZJ,if_false]at cB;have pH:=aa (eH.o.but (Ap ks) aM aV.o (by omega) (by omega));have c2:=lz pH.o.box;have cF:XX (ZF N b cv1 cv1 W w2):=gO.o.trans (ZF.of_but aM (Zw hN gO.o.size));clear c1 aM;go_wp2_with fail;refine Zh (HW.o w2 cB) ?_;rintro e w3 ⟨rfl,ap⟩;rw[aG];go_wp2_with fail;go_ret;exact⟨aG S (bE T (j+1)),j+1,lg1,cv1,cs1,rfl,nr _ _,cF.o.trans (ZF.of_below ap (Zw hN cF.o.size)),cB.below ap,aU,(pH.o.but (Ap ks) ((ab.refl b _).of_below ap) aV.o (by omega) (by omega)).wk,by rw[fs.o];exact rfl⟩
 .rw[ji,Zm q0]at fs;rw[aG];clear q0 aW bR;go_wp2_with fail;go_ret;exact⟨aG S (bE T j),i1,lg1,cv1,cs1,rfl,nr _ _,gO.o,eM.o,aU,eH.o.wk,by rw[fs.o];exact rfl⟩
theorem alc(hp:dW T (fm T (bV T n) 3) n 26):dW T (zZ T n) n 251:=by
 intro w b V g tc S i lg cv cs d hd cy h hi;have hm:jx (fm T (bV T n) 3):=Ag (tn n) 3;have ed:b<w.heap.size:=al h.blk;obtain⟨W,hW⟩:∃W,W=(w.alloc (jq b)).alloc (.cells #[.slice Za 0 0] 303):=⟨_,rfl⟩
 have hB:Zf w.heap.size w W:=by rw[hW];exact((Zu _ w).alloc (Zj _) _).alloc (by simp) _
 have jY:W.heap[w.heap.size]?=O (jq b):=by rw[hW];exact cj (aE rfl)
 have zP:W.heap[w.heap.size+1]?=O (oi 303 (.slice Za 0 0)):=by rw[hW];exact aE (by simp)
 have lN:=h.below hB;have fE:∀k,cv.ownBlock=O k->k<w.heap.size:=λk hk=>h.row.lt hk
 have hL:Gv w.heap.size (w.heap.size+1) b V W cv [] [] []:=⟨.slice Za 0 0,[],jY,zP,⟨λe=>by have:=fE _ e;omega,λe=>by have:=fE _ e;omega⟩,⟨rfl,ZU _ _ _ _⟩,λk hk=>by simp[Zo]at hk,bY.nil _ _,trivial⟩
 have lr:W.heap.size=w.heap.size+2:=by rw[hW];simp
 have HR:=aa (Ol (w:=W) (N:=w.heap.size) ab7 (Tr hm) (Gv w.heap.size (w.heap.size+1) b V) (AX w.heap.size (w.heap.size+1) b (oi 303))
  (λW1 W2 cv1 ks l new hv hb=>by obtain⟨sl,ps,hl⟩:=hv;exact⟨sl,ps,hl.but (Ap ks) hb h.vb ed (by omega)⟩)
  (λW1 W2 hv hb=>⟨(hb.block _ (al hv.1) (by simp;omega)).trans hv.1,by obtain⟨_,sl,hl⟩:=hv;exact⟨sl,(hb.block _ (al hl) (by simp;omega)).trans hl⟩⟩)
  (λW1 cv1 cs1 lg1 ks l new j hs hj hv _ jz mc=>alb hp hd cy ed (Zj _) (by omega) W1 cv1 cs1 lg1 ks l new j hs hj hv jz mc)
  ⟨#[125]⟩ (by decide) lN hi hL ⟨jY,_,zP⟩ (by omega))
 have c0:=lz jY;have HB:=aa hB;unfold cK;obtain⟨Rt,eJ⟩:∃Rt,Rt=qR T (ji T (fm T (bV T n) 3)) ⟨#[125]⟩ i:=⟨_,rfl⟩
 have nO:XX (zZ T n i=MZ Rt):=by show _=_;rw[eJ];rfl
 rw[<-eJ]at HR;obtain⟨RZ,fy⟩:∃RZ,RZ=zZ T n i:=⟨_,rfl⟩
 rw[<-fy]at nO⊢;clear h hp hm hB jY zP lN fE hL lr eJ fy;unfold jq at hW;subst hW;go_enter func251,ntmps251;go_wp2_with fail;refine Zh HR.o ?_;rintro e w1 ⟨er,i1,lg1,cv1,cs1,rfl,bR,bC,ay,aU,dE,aW⟩;have gO:XX (ZF w.heap.size b cv cv1 w w1):=(ZF.of_below HB.o (Zj _)).trans bC;have eM:=aa ay;have hr:=aW.o;unfold Gx at hr;obtain⟨sl0,zK⟩:=dE.2;cases Rt with
 |error p=>
  have hr:er=aG S p:=hr;subst hr;have c1:w1.cell? ⟨w.heap.size+1,0,Za⟩=O sl0:=by simp[Zl,zK,oi]
  clear aW bC ay dE bR zK;rw[aG];go_wp2_with fail;go_ret2;exact⟨_,aG S p,i1,lg1,cv1,cs1,rfl,.inr ⟨_,_,rfl⟩,nr S p,gO.o,eM.o,aU,by rw[nO.o];exact rfl⟩
 |ok y=>
  obtain⟨rfl,rfl,q3,new,q5,sl,ps,hl⟩:=hr;have c1:w1.cell? ⟨w.heap.size+1,0,Za⟩=O sl:=by simp[Zl,hl.var,oi]
  have HL:=aa hl;have HQ:=aa (And.intro q3 q5);clear aW bC ay dE bR zK q3 q5 hl;go_wp2_with fail;go_ret2;refine⟨_,.nilIface,y.2.2,lg1,cv1,cs1,rfl,.inr ⟨_,_,rfl⟩,.inl rfl,gO.o,eM.o,aU,?_⟩;show ZR _ _ _ _ _ _ _ _ _ _ _;rw[nO.o];have k:∀k,TB V (w.heap.size+1) cv1 sl k->k<w1.heap.size->w1.heap[k]?=w1.heap[k]?/\((V k\/w.heap.size<=k)/\cv1.ownBlock≠O k):=λk hk _=>⟨rfl,hk.1.imp_right (λq=>by omega),hk.2.1⟩
  refine ZR.ok (r:=(.mk fi 0 ⟨#[]⟩ y.1 y.2.1 0 0 0 Ze Ze Ze Za,y.2.2)) (new:=new) ?_ ?_ HQ.o.2 ?_
  .rw[eN,ZV (by decide)];exact HQ.o.1
  .unfold NP;exact⟨ps,bY.keep k _ _ HL.o.nps,.obj HL.o.row (λk hk=>⟨.inr (by have:=(HL.o.own k hk).1;omega),(HL.o.own k hk).2⟩)⟩
  .rw[gC,Zm (by decide)];exact HL.o.cls.mono (λa c hac=>hac.keep k)
end
section
variable {w w':Zk} {b:Zb} {V:Zb->Prop} {T:Zc (aj×Zb)} {g tc:Zb} {S:Zt} {i:Zb} {d:Zi} {lg:Zv} {cv cv':Zd} {cs:Zc Zd}
def qB(s:Zg)(a:Zb)(sl:Zd):Obj:=.cells #[.string s,.int .i64 a,sl] 119 (0,0)
def pQ(c:Zb):Obj:=.cells #[.pointer (O ⟨c,0,Za⟩)] 65
theorem xb(h:w.heap[m]?=O (pQ c)):w.cell? ⟨m,0,Za⟩=O (.pointer (O ⟨c,0,Za⟩)):=by unfold pQ at h;simp[Zl,h]
theorem KC(h:w.heap[c]?=O (qB s a sl)):w.cell? ⟨c,2,Za⟩=O sl/\w.frozen? ⟨c,2,Za⟩=Ze:=by unfold qB at h;constructor <;> simp[Zl,ZB,h]
theorem aaZ(ex:Zb->PR):ke T ex i=kn (DU T ex) i:=by
 unfold ke kn DU tr;by_cases h:ag T i eF=Zp
 .rw[Zn h,Zn h];cases ex (i+1) <;> rfl
 .rw[Zm h,Zm h]
structure AV(bx:Zb)(K:Zc Zb)(c b:Zb)(V:Zb->Prop)(s:Zg)(a:Zb)(W:Zk)(cv:Zd)(l:Zc Nd)(new:Zc Zd)(sl:Zd)(ps:Zc Zd):Prop where
 lv:LV Gu bx c b V (qB s a) W cv l new sl ps
 cbx:∀k∈K,W.heap[k]?=O (pQ c)
 cvx:∀k∈K,cv.ownBlock≠O k
 sbx:sl.ownBlock≠O bx
 scx:∀k∈K,sl.ownBlock≠O k
def FW(bx:Zb)(K:Zc Zb)(c b:Zb)(V:Zb->Prop)(s:Zg)(a:Zb)(W:Zk)(cv:Zd)(ks:Zc Zg)(l:Zc Nd)(new:Zc Zd):Prop:=ks=[]/\∃sl ps,AV bx K c b V s a W cv l new sl ps
def xZ(bx:Zb)(K:Zc Zb)(c b:Zb)(s:Zg)(a:Zb)(W:Zk):Prop:=AX bx c b (qB s a) W/\∀k∈K,W.heap[k]?=O (pQ c)
theorem AV.but(h:AV bx K c b V s a w cv l new sl ps)(hb:ab b w w')(hV:∀m,V m->m<b)(h1:b<bx)(h2:b<c)(h3:∀k∈K,b<k):AV bx K c b V s a w' cv l new sl ps:=
 ⟨h.lv.but Ct hb hV h1 h2,λk hk=>(hb.block _ (al (h.cbx k hk)) (by have:=h3 k hk;simp;omega)).trans (h.cbx k hk),h.cvx,h.sbx,h.scx⟩
theorem xZ.but(h:xZ bx K c b s a w)(hb:ab b w w')(h1:b<bx)(h2:b<c)(h3:∀k∈K,b<k):xZ bx K c b s a w':=by
 obtain⟨⟨q1,sl,q2⟩,q3⟩:=h;exact⟨⟨(hb.block _ (al q1) (by simp;omega)).trans q1,sl,(hb.block _ (al q2) (by simp;omega)).trans q2⟩,λk hk=>(hb.block _ (al (q3 k hk)) (by have:=h3 k hk;simp;omega)).trans (q3 k hk)⟩
theorem AV.read(h:AV bx K c b V s a w cv l new sl ps)(hf:ZF w.heap.size b cv cv' w w')(hV:∀m,V m->m<b)(h1:b<bx)(h2:b<c)(h3:∀k∈K,b<k):AV bx K c b V s a w' cv' l new sl ps:=
 ⟨h.lv.read Ct hf hV h1 h2,λk hk=>(hf.block _ (al (h.cbx k hk)) (by have:=h3 k hk;omega) (h.cvx k hk)).trans (h.cbx k hk),λk hk e=>by
  have hx:=al (h.cbx k hk);rcases hf.own _ e with e|e
  .exact h.cvx k hk e
  .omega,h.sbx,h.scx⟩
theorem AV.more{new2:Zc Zd}{w3:Zk}(h:AV bx K c b V s a w cv l new sl ps)(hg:lT c sl w w3)(hV:∀m,V m->m<b)(h0:b<c)(h1:c<bx)(h2:∀k∈K,c<k)(qd:w3.heap[c]?=O (qB s a (.slice (O ⟨gg,0,Za⟩) n cap)))(aO:ao w3 36 (.slice (O ⟨gg,0,Za⟩) n cap) (ps++[x]))(cQ:sl.ownBlock=O gg\/w.heap.size<gg)(oE:cv.ownBlock≠O gg)
 (hx:NP w (TB V c cv sl) y x) (hc:bO (CP w (TB V c cv sl)) (gC y) new2):AV bx K c b V s a w3 cv (l++[y]) (new++new2) (.slice (O ⟨gg,0,Za⟩) n cap) (ps++[x]):=by
 have k:=hg.keep (V:=V) (cv:=cv) (gg:=gg) (n:=n) (cap:=cap) (λq hq=>by have:=hV q hq;omega) cQ;have jY:=al h.lv.box;have ne:∀q,q<w.heap.size->sl.ownBlock≠O q->(ZE (O ⟨gg,0,Za⟩) n cap).ownBlock≠O q:=λq hq hs e=>by
  have e:gg=q:=by simpa[Zo]using e
  subst e;rcases cQ with e|e
  .exact hs e
  .omega
 refine⟨⟨(hg.block _ jY (by omega) h.sbx).trans h.lv.box,qd,h.lv.cm,aO,λq hq=>?_,bY.snoc (NP.keep k _ _ hx) (bY.keep k _ _ h.lv.nps),?_⟩,λk hk=>(hg.block _ (al (h.cbx k hk)) (by have:=h2 k hk;omega) (h.scx k hk)).trans (h.cbx k hk),h.cvx,ne _ jY h.sbx,λk hk=>ne _ (al (h.cbx k hk)) (h.scx k hk)⟩
 .have e:gg=q:=by simpa[Zo]using hq
  subst e;refine⟨?_,oE⟩;rcases cQ with e|e
  .exact(h.lv.own _ e).1
  .have:=al h.lv.var;omega
 .rw[D7];exact bO.append (h.lv.cls.mono (λa c hac=>hac.keep k)) (hc.mono (λa c hac=>hac.keep k))
theorem abZ:∀args W,(callFunc 259 args).run prog W=.ok (.enter 259 args) W:=ZH func259 (by kernel_rfl) rfl
theorem akR(hp:dW T ex n 26)(hd:d+(n:Zi)=12)(cy:0<=d)(h0:b<N)(hNc:N<=c)(h1:c<bx)(hcK:cx∈K)(h2:∀k∈K,c<k)
 (W:Zk) (cv1:Zd) (cs1:Zc Zd) (lg1:Zv) (ks:Zc Zg) (l:Zc Nd) (new:Zc Zd) (j:Zb) (h:ZS W b V T g tc S j d lg1 cv1 cs1) (hj:j<T.length) (hv:FW bx K c b V s a W cv1 ks l new) (hN:N<=W.heap.size) (mc:l.length<=j):
 Zr prog 259 #[.pointer (O ⟨bx,0,Za⟩),.pointer (O ⟨cx,0,Za⟩)] W λe w'=>∃er i' lg' cv' cs',e=.returned er/\eI er/\ZF N b cv1 cv' W w'/\ZS w' b V T g tc S i' d lg' cv' cs'/\i'<T.length/\xZ bx K c b s a w'/\XX (wY (ke T ex j) S er i' lg1 lg' cs1 cs' (FW bx K c b V s a w' cv') ks l new):=by
 obtain⟨rfl,sl,ps,hL⟩:=hv;have dN:=aa (akQ hp W b V g tc S j lg1 cv1 cs1 d hd cy h hj);unfold cK at dN;have c0:=lz hL.lv.box;have HL:=aa hL;have aV:=aa h.vb;have iE:=h.tl;have em:ps.length<=100000:=by
  have:=bY.len hL.lv.nps;omega
 clear h hp hL;go_enter func259,ntmps259;go_wp2_with fail;refine Zh dN.o ?_;rintro e w1 ⟨x,er,i1,lg2,cv2,cs2,rfl,hx,bR,bC,ay,aU,aW⟩;have eH:=aa (HL.o.read bC aV.o (by omega) (by omega) (λk hk=>by have:=h2 k hk;omega));have gO:=aa (bC.mono hN);have eM:=aa ay;have ee:=bC.size;have RB:c<w1.heap.size:=al eH.o.lv.var;have F5:=aa (eH.o.cbx cx hcK);have hxz:cx<w1.heap.size:=al F5.o;have alR:=h2 cx hcK;have oD:bx<w1.heap.size:=al eH.o.lv.box;have k0:=xb F5.o;have k2:=(KC eH.o.lv.var).1;obtain⟨X,hX⟩:∃X,X=x:=⟨_,rfl⟩
 have HX:=aa hX;have pW:X.oneCell'=Zp:=by rw[hX];exact hx.one
 rw[<-hX]at aW;have rb:XX (∀k,sl.ownBlock=O k->k<W.heap.size):=λk hk=>Ct.lt HL.o.lv.row hk
 have R6:c<W.heap.size:=al HL.o.lv.var;clear hX ay bC c0 dN;have k3:∀o,((w1.alloc o).drew).cell? ⟨cx,0,Za⟩=O (.pointer (O ⟨c,0,Za⟩)):=λo=>xb (cj F5.o)
 have k4:∀o,((w1.alloc o).drew).cell? ⟨c,2,Za⟩=O sl:=λo=>(KC (s:=s) (a:=a) (cj eH.o.lv.var)).1
 rcases hx with rfl|⟨tx,vx,rfl⟩
 all_goals
  go_wp2_with fail
  go_region_law (refine NI rfl (.tmp 14) (.tmp 16) 117 36 rfl .nilIface 16 Fj rfl underlying117 (by decide) sl ps (by rfl) (by exact ZG eH.o.lv.row _) ⟨w1.heap.size,0,Za⟩ 1 X (by rfl) (by rw[HX.o];exact my rfl) pW (by omega) (w1.heap.size+1) (by simp) ?_;intro gg cap w2 ph an cQ ai;(have bP:w2.heap[c]?=O (qB s a sl):=(an.block _ (by simp;omega) (λe=>absurd (eH.o.lv.own _ e.symm).1 (by omega))).trans ((Zx _ _ _ RB).trans eH.o.lv.var));(have oe:w2.heap[cx]?=O (pQ c):=(an.block _ (by simp;omega) (λe=>eH.o.scx cx hcK e.symm)).trans ((Zx _ _ _ hxz).trans F5.o));(obtain⟨f2,ff⟩:=KC bP);(have f0:=xb oe))
  all_goals
   have zt:=KZ an;have hG:∀u,lT c sl w1 (w2.setCell ⟨c,2,Za⟩ u):=λu=>lT.of zt
   have lI:sl.ownBlock=O gg\/w1.heap.size<gg:=cQ.imp_right (λe=>by omega);have LM:c<gg:=by
    rcases lI with e|e
    .exact(eH.o.lv.own _ e).1
    .omega
   have HG:=aa hG;have dT:=aa ph;have so:=aa bP;have wL:=aa lI;clear hG ph an zt cQ ai bP lI oe k0 k2 k3 k4 f0 f2 ff;go_wp2_with fail;go_ret;have hg:=HG.o (.slice (O ⟨gg,0,Za⟩) (ps.length+1) cap);have qd:(w2.setCell ⟨c,2,Za⟩ (.slice (O ⟨gg,0,Za⟩) (ps.length+1) cap)).heap[c]?=O (qB s a (.slice (O ⟨gg,0,Za⟩) (ps.length+1) cap)):=cY so.o _;refine⟨er,i1,lg2,cv2,cs2,rfl,bR,gO.o.grew hg (by omega) (by omega) (λk hk=>by have:=(eH.o.lv.own k hk).1;omega),eM.o.grew hg (by omega) eH.o.lv.cm.1 (λk hk=>⟨by have:=(eH.o.lv.own k hk).1;omega,(eH.o.lv.own k hk).2⟩),aU,⟨⟨(hg.block _ oD (by omega) eH.o.sbx).trans eH.o.lv.box,_,qd⟩,λk hk=>(hg.block _ (al (eH.o.cbx k hk)) (by have:=h2 k hk;omega) (eH.o.scx k hk)).trans (eH.o.cbx k hk)⟩,?_⟩;show wY _ _ _ _ _ _ _ _ _ _ _ _;have hr:=aW.o;rw[aaZ];unfold kn;cases hq:DU T ex j with
   |error p=>rw[hq]at hr;exact hr
   |ok r=>
    rw[hq]at hr;obtain⟨q1,q2,q3,q4,new2,q5,q6⟩:=hr;have oE:cv2.ownBlock≠O gg:=by
     intro e;rcases wL.o with e2|e2
     .exact(eH.o.lv.own _ e2).2 e
     .have:=eM.o.row.lt e;omega
    have kk:∀k,((V k\/W.heap.size<=k)/\cv2.ownBlock≠O k)->k<w1.heap.size->w1.heap[k]?=w1.heap[k]?/\TB V c cv2 sl k:=λk hk _=>⟨rfl,hk.1.imp_right (λq=>by omega),hk.2,λe=>by
     have e2:=rb.o k e;have e3:=(eH.o.lv.own k e).1;rcases hk.1 with q|q
     .have:=aV.o k q;omega
     .omega⟩
    refine⟨q1,q2,q3,new2,q5,rfl,_,ps++[X],eH.o.more hg aV.o (by omega) h1 h2 qd ?_ wL.o oE (NP.keep kk _ _ q4) (q6.mono (λa c hac=>hac.keep kk))⟩;refine ao.same dT.o (λk hk=>Zq _ _ _ _ ?_);have e:gg=k:=by simpa[Zo]using hk
    simp;omega
def Pu(R:Zy Zb (Zc Zg×Zc Nd×Zb)):Zy Zb (Zc Nd×Zb):=match R with
 |.error e=>.error e
 |.ok y=>.ok (y.2.1,y.2.2)
def rl(T:Zc (aj×Zb))(ex:Zb->PR)(i:Zb):Zy Zb (Zc Nd×Zb):=if ag T i kq then .ok ([],i+1)else Pu (qR T (ke T ex) kq i)
def Jt(R:Zy Zb (Zc Nd×Zb))(S:Zt)(er:Zd)(i':Zb)(lg lg':Zv)(cs cs':Zc Zd)(VI:Zc Nd->Zc Zd->Prop):Prop:=match R with
 |.error p=>er=aG S p
 | .ok y=>er=.nilIface/\i'=y.2/\lg'=(lg || gz y.1)/\∃new,cs'=cs++new/\VI y.1 new
end
section
variable {w w':Zk} {b:Zb} {V:Zb->Prop} {T:Zc (aj×Zb)} {g tc:Zb} {S:Zt} {i:Zb} {d:Zi} {lg:Zv} {cv cv':Zd} {cs:Zc Zd}
def CV(c b:Zb)(V:Zb->Prop)(s:Zg)(a:Zb)(W:Zk)(cv:Zd)(l:Zc Nd)(new:Zc Zd):Prop:=∃bx sl ps,LV Gu bx c b V (qB s a) W cv l new sl ps
theorem akS(hp:dW T ex n 26)(hm:jx ex)(hd:d+(n:Zi)=12)(cy:0<=d)(h:ZS w b V T g tc S i d lg cv cs)(hi:i<T.length)
 (bF:w.heap[c]?=O (qB s a (.slice Za 0 0))) (bT:b<N) (hNc:N<=c) (dx:cv.ownBlock≠O c) (hcx1:w.heap[cx]?=O (pQ c)) (hcx2:c<cx) (hcx3:cv.ownBlock≠O cx):
 Zr prog 256 #[.pointer (O ⟨b,0,Za⟩),.pointer (O ⟨c,0,Za⟩)] w λe w'=>∃er i' lg' cv' cs',e=.returned er/\eI er/\ZF N b cv cv' w w'/\ZS w' b V T g tc S i' d lg' cv' cs'/\i'<T.length/\w'.heap[cx]?=O (pQ c)/\XX (Jt (rl T ex i) S er i' lg lg' cs cs' (CV c b V s a w' cv')):=by
 have fE:c<w.heap.size:=al bF;obtain⟨W,hW⟩:∃W,W=(w.alloc (jq b)).alloc (pQ c):=⟨_,rfl⟩
 have hB:Zf w.heap.size w W:=by rw[hW];exact((Zu _ w).alloc (Zj _) _).alloc (by simp) _
 have jY:W.heap[w.heap.size]?=O (jq b):=by rw[hW];exact cj (aE rfl)
 have jZ:W.heap[w.heap.size+1]?=O (pQ c):=by rw[hW];exact aE (by simp)
 have LD:W.heap[c]?=O (qB s a (.slice Za 0 0)):=(hB.block _ fE).trans bF;have lN:=h.below hB;have LF:∀k,cv.ownBlock=O k->k<w.heap.size:=λk hk=>h.row.lt hk
 have hK:∀k∈[w.heap.size+1,cx],W.heap[k]?=O (pQ c):=λk hk=>by
  rcases Zz.1 hk with rfl|hk
  .exact jZ
  .rw[ZD.1 hk];exact(hB.block _ (al hcx1)).trans hcx1
 have SU:=al hcx1;have zc:∀k∈[w.heap.size+1,cx],c<k/\b<k:=λk hk=>by
  rcases Zz.1 hk with rfl|hk
  .omega
  .rw[ZD.1 hk];omega
 have hL:AV w.heap.size [w.heap.size+1,cx] c b V s a W cv [] [] (.slice Za 0 0) []:=⟨⟨jY,LD,⟨dx,λe=>by have:=LF _ e;omega⟩,ZU _ _ _ _,λk hk=>by simp[Zo]at hk,bY.nil _ _,trivial⟩,hK,λk hk e=>by
  rcases Zz.1 hk with rfl|hk
  .have:=LF _ e;omega
  .rw[ZD.1 hk]at e;exact hcx3 e,λe=>by simp[Zo]at e,λk _ e=>by simp[Zo]at e⟩
 have lr:W.heap.size=w.heap.size+2:=by rw[hW];simp
 have nC:=h.vb;have HT:=aa (qk lN hi ⟨#[41]⟩);have eu:XX (ag T i ⟨#[41]⟩=Zp->i+1<T.length):=λe=>h.sgn_more hi e
 have HR:XX (∀W1,ab b W W1->ZS W1 b V T g tc S i d lg cv cs->Zr prog 253 #[.pointer (O ⟨b,0,Za⟩),.string ⟨#[41]⟩,.func (.func 259) #[] #[.pointer (O ⟨w.heap.size,0,Za⟩),.pointer (O ⟨w.heap.size+1,0,Za⟩)]] W1 λe w'=>∃er i' lg' cv' cs',e=.returned er/\eI er/\ZF N b cv cv' W1 w'/\ZS w' b V T g tc S i' d lg' cv' cs'/\i'<T.length/\xZ w.heap.size [w.heap.size+1,cx] c b s a w'/\XX (Gx (qR T (ke T ex) ⟨#[41]⟩ i) S er i' lg lg' cs cs' (FW w.heap.size [w.heap.size+1,cx] c b V s a w' cv'))):=λW1 mF ay=>
  Ol (w:=W1) (N:=N) abZ (Pt hm) (FW w.heap.size [w.heap.size+1,cx] c b V s a) (xZ w.heap.size [w.heap.size+1,cx] c b s a)
  (λW1 W2 cv1 ks l new hv hb=>⟨hv.1,by obtain⟨_,sl,ps,hl⟩:=hv;exact⟨sl,ps,hl.but hb nC (by omega) (by omega) (λk hk=>(zc k hk).2)⟩⟩)
  (λW1 W2 hv hb=>hv.but hb (by omega) (by omega) (λk hk=>(zc k hk).2))
  (λW1 cv1 cs1 lg1 ks l new j hs hj hv _ jz mc=>akR hp hd cy bT hNc fE (by simp) (λk hk=>(zc k hk).1) W1 cv1 cs1 lg1 ks l new j hs hj hv jz mc)
  ⟨#[41]⟩ (by decide) ay hi ⟨rfl,_,_,hL.but mF nC (by omega) (by omega) (λk hk=>(zc k hk).2)⟩ (xZ.but ⟨⟨jY,_,LD⟩,hK⟩ mF (by omega) (by omega) (λk hk=>(zc k hk).2)) (by have:=mF.size;omega)
 have c0:=lz jY;have c1:=xb jZ;have HB:=aa hB;have HL:=aa hL;have aV:=aa nC;have AI:=aa zc;have rq:N<=w.heap.size:=by omega
 have fs:XX (rl T ex i=if ag T i ⟨#[41]⟩then .ok ([],i+1)else Pu (qR T (ke T ex) ⟨#[41]⟩ i)):=rfl;obtain⟨Bt,y9⟩:∃Bt,Bt=ag T i ⟨#[41]⟩:=⟨_,rfl⟩
 obtain⟨Rt,eJ⟩:∃Rt,Rt=qR T (ke T ex) ⟨#[41]⟩ i:=⟨_,rfl⟩
 obtain⟨RZ,fy⟩:∃RZ,RZ=rl T ex i:=⟨_,rfl⟩
 rw[<-y9]at HT eu fs;rw[<-eJ]at HR fs;rw[<-fy]at fs⊢;have hbc:b<c:=by omega
 clear h hp hm hB jY jZ bF LD lN LF hL lr eJ fy y9 nC dx hK zc hcx1 hcx2 hcx3;unfold jq pQ at hW;subst hW;cases Bt
 .rw[Zm (by simp)]at fs;go_enter func256,ntmps256;go_wp2_with fail;refine Zh HT.o ?_;rintro e w1 ⟨rfl,ae,ay⟩;simp only[ZJ,if_false]at ay;have d0:=lz (HL.o.but ae aV.o (by omega) (by omega) (λk hk=>(AI.o k hk).2)).lv.box;have iz:XX (ZF N b cv cv w w1):=(ZF.of_below HB.o rq).trans (ZF.of_but ae (Zw rq HB.o.size));have HC:=aa (HR.o w1 ae ay);clear ae ay c0 c1;go_wp2_with fail;refine Zh HC.o ?_;rintro e w2 ⟨er,i2,lg2,cv2,cs2,rfl,bR,l7,cB,dL,lO,fh⟩;go_wp2_with fail;go_ret;refine⟨er,i2,lg2,cv2,cs2,rfl,bR,iz.o.trans l7,cB,dL,lO.2 cx (by simp),?_⟩;show Jt _ _ _ _ _ _ _ _ _;rw[fs.o];have hr:=fh.o;cases Rt with
  |error p=>exact hr
  |ok y=>
   obtain⟨r1,r2,r3,new,r5,_,sl,ps,hl⟩:=hr;exact⟨r1,r2,r3,new,r5,_,sl,ps,hl.lv⟩
 .rw[Zn rfl]at fs;go_enter func256,ntmps256;go_wp2_with fail;refine Zh HT.o ?_;rintro e w1 ⟨rfl,ae,ay⟩;simp only[if_true]at ay;have iz:XX (ZF N b cv cv w w1):=(ZF.of_below HB.o rq).trans (ZF.of_but ae (Zw rq HB.o.size));have eH:=aa (HL.o.but ae aV.o (by omega) (by omega) (λk hk=>(AI.o k hk).2));go_wp2_with fail;go_ret;refine⟨.nilIface,i+1,lg,cv,cs,rfl,.inl rfl,iz.o,ay,eu.o (by first|rfl|trivial),eH.o.cbx cx (by simp),?_⟩;show Jt _ _ _ _ _ _ _ _ _;rw[fs.o];exact⟨rfl,rfl,by rw[gz];simp,[],by simp,_,_,_,eH.o.lv⟩
def yR(s:Zg)(a:Zb)(R:Zy Zb (Zc Nd×Zb)):PR:=match R with
 |.error e=>.error e
 |.ok y=>.ok (.mk eX a s [] y.1 0 0 0 Ze Ze Ze Za,y.2)
theorem abm(n:Zb):mx T (bV T n) i=lH T n (λn' j=>yR (bp T i).txt (bE T i) (rl T (fm T (bV T n') 3) j)) (i+1):=by
 cases n with
 |zero=>rfl
 |succ n=>
  unfold mx lH rl;rw[bV];simp only;by_cases hs:ag T (i+1+1) kq=Zp
  .rw[Zn hs,Zn hs];rfl
  .rw[Zm hs,Zm hs];unfold qR;cases dY T (ke T (fm T (bV T n) 3)) T.length [] [] (i+1+1)with
   |error e=>rfl
   |ok y=>
    simp only[gY];by_cases hs:ag T y.2.2 kq=Zp
    .rw[Zn hs,Zn hs];rfl
    .rw[Zm hs,Zm hs];rfl
theorem ab5:∀args W,(callFunc 255 args).run prog W=.ok (.enter 255 args) W:=ZH func255 (by kernel_rfl) rfl
theorem ak6{cs0:Zc Zd}(hp:dW T ex n 26)(hm:jx ex)(hd:d+(n:Zi)=12)(cy:0<=d)(h:ZS w b V T g tc S i d lg cv cs)(gF:cs=cs0++[.pointer (O ⟨c,0,Za⟩)])(hi:i<T.length)
 (jY:w.heap[bx]?=O (jq b)) (jZ:w.heap[cx]?=O (pQ c)) (bF:w.heap[c]?=O (qB s a (.slice Za 0 0))) (bT:b<N) (hNc:N<=c) (SU:c<cx) (dx:cv.ownBlock≠O c) (hcc2:cv.ownBlock≠O cx):
 cK T N b V g tc S d lg cv cs0 (yR s a (rl T ex i)) 255 #[.pointer (O ⟨bx,0,Za⟩),.pointer (O ⟨cx,0,Za⟩)] w:=by
 have HC:=aa (akS hp hm hd cy h hi bF bT hNc dx jZ SU hcc2);have c0:=lz jY;have c1:=xb jZ;unfold cK;obtain⟨RZ,fy⟩:∃RZ,RZ=rl T ex i:=⟨_,rfl⟩
 rw[<-fy]at HC⊢;have uP:=aa gF;clear h hp hm jY jZ bF fy gF dx hcc2;go_enter func255,ntmps255;go_wp2_with fail;refine Zh HC.o ?_;rintro e w1 ⟨er,i1,lg1,cv1,cs1,rfl,bR,bC,ay,aU,gX,aW⟩;have d1:=xb gX;have HF:=aa bC;have HS:=aa ay;have wK:=aa bR;clear bC ay gX c0 c1 HC;rcases bR with rfl|⟨te,ve,rfl⟩
 all_goals
  go_wp2_with fail;go_ret2;refine⟨_,_,i1,lg1,cv1,cs1,rfl,.inr ⟨_,_,rfl⟩,wK.o,HF.o,HS.o,aU,?_⟩;show ZR _ _ _ _ _ _ _ _ _ _ _;have hr:=aW.o;cases RZ with
  |error p=>exact hr
  |ok y=>
   obtain⟨r1,r2,r3,new,r5,bx2,sl,ps,hl⟩:=hr;have k:∀k,TB V c cv1 sl k->k<w1.heap.size->w1.heap[k]?=w1.heap[k]?/\((V k\/N<=k)/\cv1.ownBlock≠O k):=λk hk _=>⟨rfl,hk.1.imp_right (λq=>by omega),hk.2.1⟩
   have hN:NP w1 (λm=>(V m\/N<=m)/\cv1.ownBlock≠O m) (.mk eX a s [] y.1 0 0 0 Ze Ze Ze Za) (.iface 65 (.pointer (O ⟨c,0,Za⟩))):=by
    unfold NP;exact⟨ps,bY.keep k _ _ hl.nps,.call ⟨.inr hNc,hl.cm.1⟩ hl.var ⟨hl.row,λq hq=>⟨.inr (by have:=(hl.own q hq).1;omega),(hl.own q hq).2⟩⟩⟩
   refine⟨r1,r2,?_,hN,.pointer (O ⟨c,0,Za⟩)::new,?_,?_⟩
   .show _=(lg || eN (.mk eX a s [] y.1 0 0 0 Ze Ze Ze Za));rw[eN,ZV (by decide)];exact r3
   .rw[r5,uP.o];simp
   .show bO _ (gC (.mk eX a s [] y.1 0 0 0 Ze Ze Ze Za)) _;rw[gC,Zn rfl];exact⟨⟨_,rfl,hN⟩,hl.cls.mono (λa c hac=>hac.keep k)⟩
theorem afy:(prog.info? 65).map (λi=>(i.zero,i.size,i.bytes))=O (O (.pointer Za),1,8):=by kernel_rfl
theorem ZS.app(h:ZS w b V T g tc S i d lg cv cs)(an:(w.alloc ob).grownBy w2 cv.ownBlock)(aO:ao w2 65 (.slice (O ⟨gg,0,Za⟩) m cap) (cs++[x]))(cQ:cv.ownBlock=O gg\/gg=w.heap.size+1)(rx:cs.length<i):
 ZS (w2.setCell ⟨b,4,Za⟩ (.slice (O ⟨gg,0,Za⟩) m cap)) b V T g tc S i d lg (.slice (O ⟨gg,0,Za⟩) m cap) (cs++[x]):=by
 have hb:=al h.blk;have hbg:b<gg:=by
  rcases cQ with e|e
  .exact h.sep _ e
  .omega
 have hk:∀k,k<w.heap.size->cv.ownBlock≠O k->w2.heap[k]?=w.heap[k]?:=λk h1 h2=>by
  rw[an.block k (by simp;omega) (λe=>h2 e.symm),Zx _ _ _ h1]
 have e1:∀k,(ZE (O ⟨gg,0,Za⟩) m cap).ownBlock=O k->gg=k:=λk e=>by simpa[Zo]using e
 refine⟨cY ((hk b hb (λe=>by have:=h.sep _ e;omega)).trans h.blk) _,h.toks.keep (b:=b) (λk h1 h2=>?_) h.gb h.vb h.sb,aO.same (λk ek=>Zq _ _ _ _ ?_),λk ek=>?_,h.gb,h.vb,h.sb,h.tl,h.last,by simp;omega⟩
 .rw[Zq _ _ _ _ (by simp;omega)];exact hk k h2 (λe=>by have:=h.sep _ e;omega)
 .have:=e1 k ek;simp;omega
 .have:=e1 k ek;omega
theorem ZF.app{w1:Zk}(h:ZF N b cv cv w w1)(an:(w1.alloc ob).grownBy w2 cv.ownBlock)(cQ:cv.ownBlock=O gg\/gg=w1.heap.size+1)(hN:N<=w1.heap.size):ZF N b cv (.slice (O ⟨gg,0,Za⟩) m cap) w (w2.setCell ⟨b,4,Za⟩ (.slice (O ⟨gg,0,Za⟩) m cap)):=
 ⟨an.os.trans h.os,an.tape.trans h.tape,an.output.trans h.output,by have h1:=an.size;have h2:=h.size;simp at h1;simp[ZA];omega,λk h1 h2 h3=>by
  rw[Zq _ _ _ _ (by simpa using h2),an.block k (by simp;omega) (λe=>h3 e.symm),Zx _ _ _ (by omega)];exact h.block k h1 h2 h3,λk e=>by
  have e:gg=k:=by simpa[Zo]using e
  subst e;exact cQ.imp_right (λe=>by omega)⟩
theorem ak8{N bx c n:Zb}{s:Zg}{a:Zb}(hinn:yK T n)(hd:d+(n:Zi)=12)(cy:0<=d)(h:ZS w b V T g tc S i d lg cv (cs++[.pointer (O ⟨c,0,Za⟩)]))(hi:i+1<T.length)
 (jY:w.heap[bx]?=O (jq b)) (jZ:w.heap[c+1]?=O (pQ c)) (bF:w.heap[c]?=O (qB s a (.slice Za 0 0))) (bT:b<N) (Hi:N<=bx) (hNc:N<=c) (dx:cv.ownBlock≠O c) (hcc2:cv.ownBlock≠O (c+1)):
 cK T N b V g tc S d lg cv cs (lH T n (λn' j=>yR s a (rl T (fm T (bV T n') 3) j)) i) 186 #[.pointer (O ⟨b,0,Za⟩),.func (.func 255) #[] #[.pointer (O ⟨bx,0,Za⟩),.pointer (O ⟨c+1,0,Za⟩)]] w:=by
 have hz:=Oj (N:=N) (n:=n) (Rin:=IP (λn' j=>yR s a (rl T (fm T (bV T n') 3) j)) n) (cs0:=cs) (.inr rfl) ab5 hd cy h hi (by have:=al bF;omega) bT (λn' hn W hW hs=>by
  subst hn;exact ak6 (n:=n') hinn.2 (Ag (tn n') 3) (by omega) (by omega) hs rfl hi ((hW.block _ (al jY) (by simp;omega)).trans jY) ((hW.block _ (al jZ) (by simp;omega)).trans jZ) ((hW.block _ (al bF) (by simp;omega)).trans bF) bT hNc (by omega) dx hcc2)
 have e:Bm T n (IP (λn' j=>yR s a (rl T (fm T (bV T n') 3) j)) n) i=lH T n (λn' j=>yR s a (rl T (fm T (bV T n') 3) j)) i:=by cases n <;> rfl
 rw[e]at hz;exact hz
theorem ak7(hinn:yK T n)(w:Zk)(b:Zb)(V:Zb->Prop)(g tc:Zb)(S:Zt)(i:Zb)(lg:Zv)(cv:Zd)(cs:Zc Zd)(d:Zi)(hd:d+(n:Zi)=12)(cy:0<=d)(h:ZS w b V T g tc S i d lg cv cs)(hi:i<T.length)(hk:(bp T i).kind=119):
 cK T w.heap.size b V g tc S d lg cv cs (zX T (bV T n) i) 249 #[.pointer (O ⟨b,0,Za⟩)] w:=by
 obtain⟨x,hx⟩:∃x,T[i]?=O x:=⟨_,ZC hi⟩
 have ht:bp T i=x.1:=by rw[bp,hx]
 have SA:bE T i=x.2:=by rw[bE,hx]
 have aU:i+1<T.length:=h.more hi (by rw[hk];decide) (by rw[hk];decide);have bT:b<w.heap.size:=al h.blk;have iE:=h.tl;obtain⟨W,hW⟩:∃W,W=w.alloc (jq b):=⟨_,rfl⟩
 have hB:Zf w.heap.size w W:=by rw[hW];exact(Zu _ w).alloc (Zj _) _
 have jK:W.heap[w.heap.size]?=O (jq b):=by rw[hW];exact aE rfl
 have lr:W.heap.size=w.heap.size+1:=by rw[hW];simp
 have lN:=h.below hB;have c0:=lz jK;have HN:=aa (uK lN hx);have HI:XX (∀W1,ZS W1 b V T g tc S (i+1) d lg cv cs->Zr prog 138 #[.pointer (O ⟨b,0,Za⟩),.string ⟨#[40]⟩] W1 λe w'=>e=.returned (.bool (ag T (i+1) ⟨#[40]⟩))/\Zf W1.heap.size W1 w'):=λW1 h1=>pD h1 aU _
 have eu:XX (ag T (i+1) ⟨#[40]⟩=Zp->i+1+1<T.length):=λe=>by
  refine ZS.sgn_more (i:=i+1) (h.at (i':=i+1) rfl) aU e
 have HS:=aa h;have fL:=aa lN;have HB:=aa hB;have yD:=aa jK;have rc:=aa lr;have fs:XX (zX T (bV T n) i=if ag T (i+1) ⟨#[40]⟩then lH T n (λn' j=>yR x.1.txt x.2 (rl T (fm T (bV T n') 3) j)) (i+1)else .ok (tq oP x.1.txt,i+1)):=by
  show _=_;rw[zX,abm,ht,SA];rfl
 obtain⟨Bt,y9⟩:∃Bt,Bt=ag T (i+1) ⟨#[40]⟩:=⟨_,rfl⟩
 obtain⟨RZ,fy⟩:∃RZ,RZ=zX T (bV T n) i:=⟨_,rfl⟩
 rw[<-y9]at HI eu fs;rw[<-fy]at fs⊢;unfold cK;have HK:=aa hk;have Ro:b≠w.heap.size:=by omega
 clear h hx ht SA hB jK lr lN y9 fy hk;unfold jq at hW;subst hW;cases Bt
 .rw[Zm (by simp)]at fs;go_enter func249,ntmps249;go_wp2_with fail;refine Zh HN.o ?_;rintro e w2 ⟨v,rfl,ah,hv,_⟩;rw[aI];have ap:∀o,Zf w.heap.size w (w2.alloc o):=λo=>(HB.o.trans (ah.mono HB.o.size)).trans ((Zu _ _).alloc (Zw HB.o.size ah.size) _)
  have bo:=aa ap;have bm:∀o,ZS (w2.alloc o) b V T g tc S i d lg cv cs:=λo=>HS.o.below (ap o)
  have jb:=aa bm;have zp:∀o,(w2.alloc o).heap[w.heap.size]?=O (jq b):=λo=>cj ((ah.block _ (al yD.o)).trans yD.o)
  have z1:∀o,(w2.alloc o).cell? ⟨b,1,Za⟩=O (.int .i64 i):=λo=>(jF (bm o).blk).2.1
  have zf:∀o,(w2.alloc o).frozen? ⟨b,1,Za⟩=Ze:=λo=>(jF (bm o).blk).2.2.2.2.2 1
  have p0:∀o,(w2.alloc o).cell? ⟨w.heap.size,0,Za⟩=O (.pointer (O ⟨b,0,Za⟩)):=λo=>lz (zp o)
  have p1:∀o u,((w2.alloc o).setCell ⟨b,1,Za⟩ u).cell? ⟨w.heap.size,0,Za⟩=O (.pointer (O ⟨b,0,Za⟩)):=λo u=>lz ((Zq _ _ _ _ (by simpa using Ro.symm)).trans (zp o))
  have va:XX (∀o:Obj,∀u,b≠w2.heap.size/\((w2.alloc o).setCell ⟨b,1,Za⟩ u).heap[w2.heap.size]?=O o):=λo u=>by
   have:b≠w2.heap.size:=by
    have:=al (bm o).blk;have:=ah.size;have:=al fL.o.blk;omega
   exact⟨this,(Zq _ _ _ _ (by simpa using this.symm)).trans (aE rfl)⟩
  clear ah ap bm zp c0;rcases hv with rfl|⟨tv,xv,rfl⟩
  all_goals
   go_wp2_with fail;refine Zh (HI.o _ ((jb.o _).at (by go_num))) ?_;rintro e w4 ⟨rfl,aB⟩;have y2:w4.cell? ⟨w2.heap.size,2,Za⟩=O (.string x.1.txt):=by
    have:=(aB.block _ (al (va.o _ _).2)).trans (va.o _ _).2;simp[Zl,this]
   have lY:XX (ZS w4 b V T g tc S (i+1) d lg cv cs):=((jb.o _).at (by go_num)).below aB;have lW:XX (ZF w.heap.size b cv cv w w4):=((ZF.of_below (bo.o _) (Zj _)).setb _ _).trans (ZF.of_below aB (by have:=(bo.o (.cells #[] 0)).size;simp[ZA]at this⊢;omega));clear aB;go_wp2_with fail;go_ret2;refine⟨_,.nilIface,i+1,lg,cv,cs,rfl,.inr ⟨_,_,rfl⟩,.inl rfl,lW.o,lY.o,aU,?_⟩;rw[fs.o];exact ZR.leaf (by decide) (by decide) .name
 .rw[Zn rfl]at fs;have dL:=eu.o (by first|rfl|trivial);have lX:=aa hinn;have rx:=HS.o.cl;go_enter func249,ntmps249;go_wp2_with fail;refine Zh HN.o ?_;rintro e w2 ⟨v,rfl,ah,hv,_⟩;rw[aI];have ap:∀o,Zf w.heap.size w (w2.alloc o):=λo=>(HB.o.trans (ah.mono HB.o.size)).trans ((Zu _ _).alloc (Zw HB.o.size ah.size) _)
  have bo:=aa ap;have bm:∀o,ZS (w2.alloc o) b V T g tc S i d lg cv cs:=λo=>HS.o.below (ap o)
  have jb:=aa bm;have zp:∀o,(w2.alloc o).heap[w.heap.size]?=O (jq b):=λo=>cj ((ah.block _ (al yD.o)).trans yD.o)
  have z1:∀o,(w2.alloc o).cell? ⟨b,1,Za⟩=O (.int .i64 i):=λo=>(jF (bm o).blk).2.1
  have zf:∀o,(w2.alloc o).frozen? ⟨b,1,Za⟩=Ze:=λo=>(jF (bm o).blk).2.2.2.2.2 1
  have p0:∀o,(w2.alloc o).cell? ⟨w.heap.size,0,Za⟩=O (.pointer (O ⟨b,0,Za⟩)):=λo=>lz (zp o)
  have LC:∀o u,((w2.alloc o).setCell ⟨b,1,Za⟩ u).heap[w.heap.size]?=O (jq b):=λo u=>(Zq _ _ _ _ (by simpa using Ro.symm)).trans (zp o)
  have p1:∀o u,((w2.alloc o).setCell ⟨b,1,Za⟩ u).cell? ⟨w.heap.size,0,Za⟩=O (.pointer (O ⟨b,0,Za⟩)):=λo u=>lz (LC o u)
  have Ot:=aa LC;have va:XX (∀o:Obj,∀u,b≠w2.heap.size/\((w2.alloc o).setCell ⟨b,1,Za⟩ u).heap[w2.heap.size]?=O o):=λo u=>by
   have:b≠w2.heap.size:=by
    have:=al (bm o).blk;have:=ah.size;have:=al fL.o.blk;omega
   exact⟨this,(Zq _ _ _ _ (by simpa using this.symm)).trans (aE rfl)⟩
  have dP:w.heap.size+1<=w2.heap.size:=by have:=ah.size;have:=rc.o;omega
  clear ah ap bm zp LC c0;rcases hv with rfl|⟨tv,xv,rfl⟩
  all_goals
   go_wp2_with fail;refine Zh (HI.o _ ((jb.o _).at (by go_num))) ?_;rintro e w4 ⟨rfl,aB⟩;have zN:=(aB.block _ (al (va.o _ _).2)).trans (va.o _ _).2;have y2:w4.cell? ⟨w2.heap.size,2,Za⟩=O (.string x.1.txt):=by simp[Zl,zN]
   have y1:w4.cell? ⟨w2.heap.size,1,Za⟩=O (.int .i64 x.2):=by simp[Zl,zN]
   have lY:XX (ZS w4 b V T g tc S (i+1) d lg cv cs):=((jb.o _).at (by go_num)).below aB;have lW:XX (ZF w.heap.size b cv cv w w4):=((ZF.of_below (bo.o _) (Zj _)).setb _ _).trans (ZF.of_below aB (by have:=(bo.o (.cells #[] 0)).size;simp[ZA]at this⊢;omega));have Rq:w4.heap[w.heap.size]?=O (jq b):=(aB.block _ (al (Ot.o _ _))).trans (Ot.o _ _);have Ou:=aa Rq;have hz4:w2.heap.size<w4.heap.size:=al zN;have alQ:b<w4.heap.size:=al lY.o.blk;clear aB zN Rq p0 p1 z1 zf;go_wp2_with fail;obtain⟨W5,Bv⟩:∃W5,W5=(w4.alloc (.cells #[.string x.1.txt,.int .i64 x.2,.slice Za 0 0] 119)).alloc (.cells #[.pointer (O ⟨w4.heap.size,0,Za⟩)] 65):=⟨_,rfl⟩
   rw[<-Bv];have Ip:W5.heap.size=w4.heap.size+2:=by rw[Bv];simp
   have bP:Zf w4.heap.size w4 W5:=by rw[Bv];exact((Zu _ w4).alloc (Zj _) _).alloc (by simp) _
   have Rs:W5.heap[w4.heap.size]?=O (qB x.1.txt x.2 (.slice Za 0 0)):=by rw[Bv];exact cj (aE rfl)
   have oe:W5.heap[w4.heap.size+1]?=O (pQ w4.heap.size):=by rw[Bv];exact aE (by simp)
   have dB:W5.heap[w.heap.size]?=O (jq b):=(bP.block _ (al Ou.o)).trans Ou.o;have lF:=aa (lY.o.below bP);have jR:XX (ZF w.heap.size b cv cv w W5):=lW.o.trans (ZF.of_below bP (by omega));have Wr:=aa Rs;have Pf:=aa oe;have qo:=aa dB;have DK:=aa Ip;clear Bv bP;have k0:=xb oe;have k1:=lz dB;have k2:=(jF lF.o.blk).2.2.2.2.1;have k0':∀o,((W5.alloc o).drew).cell? ⟨w4.heap.size+1,0,Za⟩=O (.pointer (O ⟨w4.heap.size,0,Za⟩)):=λo=>xb (cj Pf.o)
   have k1':∀o,((W5.alloc o).drew).cell? ⟨w.heap.size,0,Za⟩=O (.pointer (O ⟨b,0,Za⟩)):=λo=>lz (cj qo.o)
   have k2':∀o,((W5.alloc o).drew).cell? ⟨b,4,Za⟩=O cv:=λo=>(jF (cj lF.o.blk)).2.2.2.2.1
   have Mm:∀k,cv.ownBlock=O k->b<k/\k<w4.heap.size:=λk hk=>⟨lY.o.sep k hk,lY.o.row.lt hk⟩
   have kP:cv.ownBlock≠O w.heap.size:=λe=>by have:=HS.o.row.lt e;omega
   clear Rs oe dB Ip
   go_region_law (refine NI rfl (.tmp 31) (.tmp 33) 57 65 rfl (.pointer Za) 8 afy rfl underlying57 (by decide) cv cs (by rfl) (by exact ZG lF.o.row _) ⟨W5.heap.size,0,Za⟩ 1 (.pointer (O ⟨w4.heap.size,0,Za⟩)) (by rfl) (by exact my rfl) rfl (by omega) (W5.heap.size+1) (by simp) ?_;intro gg cap w6 ut rA Hp zA;(have jB:w6.heap[b]?=_:=(rA.block _ (by have:=DK.o;simp;omega) (λe=>absurd (Mm _ e.symm).1 (by omega))).trans ((Zx _ _ _ (by have:=DK.o;omega)).trans lF.o.blk));(have qM:w6.heap[w.heap.size]?=O (jq b):=(rA.block _ (by have:=DK.o;simp;omega) (λe=>kP e.symm)).trans ((Zx _ _ _ (by have:=DK.o;omega)).trans qo.o));(have f4:=(jF jB).2.2.2.2.1);(have ff:=(jF jB).2.2.2.2.2 4);(have f1:=lz qM))
   all_goals
    have zt:=KZ rA;have Ip:=DK.o;have AR:=aa (lF.o.app zt ut Hp (by omega));have AD:=aa (jR.o.app (m:=cs.length+1) (cap:=cap) zt Hp (by omega));have xx:∀k,k<W5.heap.size->k≠b->cv.ownBlock≠O k->(w6.setCell ⟨b,4,Za⟩ (.slice (O ⟨gg,0,Za⟩) (cs.length+1) cap)).heap[k]?=W5.heap[k]?:=λk h1 h2 h3=>by
     rw[Zq _ _ _ _ (by simpa using h2),zt.block k (by simp;omega) (λe=>h3 e.symm),Zx _ _ _ h1]
    have am:∀k,w4.heap.size<=k->k<=w4.heap.size+1->(ZE (O ⟨gg,0,Za⟩) (cs.length+1) cap).ownBlock≠O k:=λk h1 h2 e=>by
     have e:gg=k:=by simpa[Zo]using e
     rcases Hp with q|q
     .have:=(Mm _ q).2;omega
     .omega
    have BE:∀k,w4.heap.size<=k->cv.ownBlock≠O k:=λk h1 e=>by have:=(Mm _ e).2;omega
    have Lh:=(xx w.heap.size (by omega) (by omega) kP).trans qo.o;have HD:=aa (ak8 (N:=w.heap.size) lX.o hd cy AR.o dL Lh ((xx (w4.heap.size+1) (by omega) (by omega) (BE _ (by omega))).trans Pf.o) ((xx w4.heap.size (by omega) (by omega) (BE _ (by omega))).trans Wr.o) bT (Zj _) (by omega) (am _ (by omega) (by omega)) (am _ (by omega) (by omega)));have f7:=lz Lh;unfold cK at HD;obtain⟨w7,Ik⟩:∃w7,w7=w6.setCell ⟨b,4,Za⟩ (.slice (O ⟨gg,0,Za⟩) (cs.length+1) cap):=⟨_,rfl⟩
    change Exit.then _ _ Exit.normal _ (w6.setCell ⟨b,4,Za⟩ (.slice (O ⟨gg,0,Za⟩) (cs.length+1) cap))
    rw[<-Ik]at HD AD f7⊢;clear Ik zt Ip AR xx am BE Lh rA ut Hp zA jB qM f4 ff f1 k0 k1 k2 k0' k1' k2';go_wp2_with fail;refine Zh HD.o ?_;rintro e w8 ⟨x8,er,i8,lg8,cv8,cs8,rfl,hx8,bR,hf8,Sq,hi8,Cb⟩;go_wp2_with fail;go_ret2;exact⟨x8,er,i8,lg8,cv8,cs8,rfl,hx8,bR,AD.o.trans hf8,Sq,hi8,by rw[fs.o];exact Cb⟩
end
theorem UU{t:TypeId}(ht:t∈ol)(v:Zd):uI t v 179 (.agg #[.nilIface]):=by
 simp only[ol,rT,ZK,ZM,Zz,ZN,or_false]at ht;rcases ht with rfl|rfl|rfl|rfl|rfl|rfl|rfl|rfl|rfl|rfl|rfl|rfl|rfl|rfl|rfl|rfl|rfl
 all_goals
  intro W
  kernel_rfl
theorem UP{op:Zg}{names:Zc Zg}{n0 n1 n2:Zi}{i0 i1 i2:Zv}{v:Option (VT 12)}(h:op≠eF):iY (.mk op a s names l n0 n1 n2 i0 i1 i2 v)=118:=Zm h
theorem NP.expr(h:NP w A y x):(iY y=38/\∃t v,x=.iface 179 (.agg #[.iface t v]))\/(iY y=118/\∃t v,x=.iface t v/\t∈ol/\t≠179):=by
 obtain⟨op,a,s,names,l,n0,n1,n2,i0,i1,i2,vv⟩:=y;unfold NP at h;obtain⟨ps,h1,h2⟩:=h;cases h2
 case expr p=>
  left
  refine⟨Zn rfl,?_⟩;cases l with
  |nil=>unfold bY at h1;cases h1
  |cons y l=>
   unfold bY at h1;obtain⟨p',ps',e,hp,_⟩:=h1;injection e with e1 e2;subst e1;obtain⟨t,z,e⟩:=hp.isif;exact⟨t,z,by rw[e]⟩
 case pair ho=>
  right
  refine⟨?_,_,_,rfl,by decide,by decide⟩;simp only[pr,ii,ZK,ZM,Zz,ZN,or_false]at ho;rcases ho with rfl|rfl|rfl|rfl|rfl|rfl|rfl|rfl|rfl <;> exact UP (by decide)
 all_goals
  right
  exact⟨UP (by decide),_,_,rfl,by decide,by decide⟩
theorem bY.get:∀{l:Zc Nd} {ps:Zc Zd},bY w A l ps->∀(k:Zb) (y:Nd),l[k]?=O y->∃x,ps[k]?=O x/\NP w A y x
 |[],ps,h,k,y,hy=>by simp at hy
 |z::l,ps,h,k,y,hy=>by
  unfold bY at h;obtain⟨p,ps',e,h1,h2⟩:=h;subst e;cases k with
  |zero=>simp at hy;subst hy;exact⟨p,rfl,h1⟩
  |succ k=>exact bY.get h2 k y (by simpa using hy)
theorem take_set{cur:Array Zd}{k:Zb}(hk:k<cur.size)(v:Zd){xs:Zc Zd}(h:cur.toList.take k=xs):(cur.setIfInBounds k v).toList.take (k+1)=xs++[v]:=by
 rw[ZI,ZP,Zc.getElem?_set_self (by simpa using hk),ZQ,ZO (by simp;omega),h]
 rfl
theorem ahT(hl:bY w A l ps)(hr:ao w 36 sl ps)(hn:l.length<=1000):
 Zr prog 57 #[sl] w λe w'=>e=.returned (.string ⟨(l.map iY).toArray⟩)/\Zf w.heap.size w w':=by
 have az:=bY.len hl;obtain⟨i0,hi,ip,ee,dP⟩:=info_parts zS;have SZ:i0.bytes=1:=dP;obtain⟨a,cap,km,rx⟩:∃a cap,sl=.slice a ps.length cap/\∀k x,ps[k]?=O x->∃g,a=O ⟨g,0,Za⟩/\w.cell? ⟨g,k,Za⟩=O x:=by
  rcases hr.2 with⟨rfl,e⟩|⟨g,cap,cur,rfl,_⟩
  .obtain rfl:ps=[]:=Zc.eq_nil_of_length_eq_zero e;exact⟨Za,0,rfl,λk x hx=>by simp at hx⟩
  .refine⟨O ⟨g,0,Za⟩,cap,rfl,λk x hx=>⟨g,rfl,?_⟩⟩;have:=ZW hr (g:=g) rfl k x hx;rw[Zt.add_lit,Zb.zero_add]at this;exact this
 subst km;have HL:=aa hl;have sh:=aa rx;have j8:=aa az;have rJ:ps.length<=1000:=by omega
 clear hl hr rx az;go_enter func57,ntmps57;go_wp2_with (at_make;refine wpList_make_full _ rfl _ _ 49 rfl w.heap.size 5 i0 (.int .u8 0) 1 underlying49 hi ip ee .i64 .i64 _ _ ps.length rfl rfl rfl rfl ?h1 ?h2 ?h3 ?_)
 case h1=>rw[SZ];omega
 case h2=>unfold maxLen;omega
 case h3=>exact Zj _
 intro w1 Sl bX;obtain⟨cur0,QT,Rz⟩:∃cur,w1.heap[w.heap.size]?=O (.cells cur 5 (0,0))/\cur.size=ps.length:=by
  rcases Sl.2 with⟨e,_⟩|⟨g,cp,cur,e,_,hg,_,_,aH,_⟩
  .cases e
  .injection e with e1 e2 e3;injection e1 with e1;injection e1 with e1;subst e1;exact⟨cur,hg,by rw[aH,e3];omega⟩
 have aT:XX (Zf w.heap.size w w1):=⟨bX.os,bX.tape,bX.output,bX.size,λk hk=>bX.block k hk (by simp)⟩
 have qU:=aa (And.intro QT Rz);clear Sl bX QT Rz hi ip ee dP SZ;go_wp2_with fail;go_loopg [13] (ps.length+1) (λgh s13 wr=>∃k:Zb,s13=.int .i64 k/\k<=ps.length/\ps.length<gh+k/\Zf w.heap.size w wr/\∃cur,wr.heap[w.heap.size]?=O (.cells cur 5 (0,0))/\cur.size=ps.length/\cur.toList.take k=bv ((l.take k).map iY))
 case atStart=>exact⟨0,rfl,by omega,by omega,aT.o,cur0,qU.o.1,qU.o.2,rfl⟩
 case round=>
  obtain⟨k,rfl,hk,mL,hb,cur,hG,gF,hT⟩:=hrel;obtain⟨gh',rfl⟩:∃g,gk=g+1:=⟨gk-1,by omega⟩
  have HB:=aa hb;have yl:=aa hG;have uP:=aa gF;have HT:=aa hT;clear hb gF hT aT qU;rcases Zb.lt_or_ge k ps.length with h1|h1
  .have kj:(k:Zi)<(ps.length:Zi):=by omega
   have dO:k<l.length:=by have:=j8.o;omega
   obtain⟨x,hx,kP⟩:=HL.o.get k (l[k]'dO) (ZC dO);obtain⟨g,rfl,jZ⟩:=sh.o k x hx;have c1:=gi jZ HB.o;have p9:k<cur.size:=by rw[uP.o];exact h1
   have c2:wr.cell? ⟨w.heap.size,k,Za⟩=O (cur[k]'p9):=by simp[Zl,hG,p9]
   have f2:wr.frozen? ⟨w.heap.size,k,Za⟩=Ze:=by simp[ZB,hG]
   have aL:XX (∀b:UInt8,iY (l[k]'dO)=b->bv ((l.take (k+1)).map iY)=bv ((l.take k).map iY)++[.int .u8 b.toNat]):=λb hb=>by
    rw[ZP,ZC dO,Zc.map_append,tZ];simp[bv,hb]
   clear hG jZ hx;rcases kP.expr with⟨hs,t',v',rfl⟩|⟨hs,t',v',rfl,mh,bj⟩
   .have ta:=UU (t:=179) (by decide) (.agg #[.iface t' v']);unfold uI at ta;simp at ta;have c3:∀o,((wr.setCell ⟨w.heap.size,k,Za⟩ (.int .u8 118)).alloc o).cell? ⟨w.heap.size,k,Za⟩=O (.int .u8 118):=λo=>by
     have:=cj (o:=o) (cY (o:=k) yl.o (.int .u8 118));simp[Zl,this,p9]
    have f3:∀o,((wr.setCell ⟨w.heap.size,k,Za⟩ (.int .u8 118)).alloc o).frozen? ⟨w.heap.size,k,Za⟩=Ze:=λo=>by
     have:=cj (o:=o) (cY (o:=k) yl.o (.int .u8 118));simp[ZB,this]
    have HS:=aa hs;clear hs kP;go_wp2;go_roundg gh'
    case measure=>omega
    case rel=>
     refine⟨k+1,by go_num,by omega,by omega,((HB.o.setCell (Zj _) _).alloc (by simp[ZA];exact HB.o.size) _).setCell (Zj _) _,_,cY (cj (cY yl.o _)) _,by simp;exact uP.o,?_⟩;rw[aL.o 38 HS.o];refine take_set (by simpa using p9) _ ?_;rw[ZI,ZQ,ZO (by simp;omega)];exact HT.o
   .have ta:=UU mh v';unfold uI at ta;simp only[bj,if_false,decide_false]at ta;have HS:=aa hs;clear hs kP mh bj;go_wp2;go_roundg gh'
    case measure=>omega
    case rel=>
     refine⟨k+1,by go_num,by omega,by omega,(HB.o.setCell (Zj _) _).alloc (by simp[ZA];exact HB.o.size) _,_,cj (cY yl.o _),by simp;exact uP.o,?_⟩;rw[aL.o 118 HS.o];exact take_set p9 _ HT.o
  .have kj:¬(k:Zi)<(ps.length:Zi):=by omega
   obtain rfl:k=ps.length:=by omega
   have oU:(convert 49 9 (.slice (O ⟨w.heap.size,0,Za⟩) ps.length ps.length)).run prog wr=.ok (.string ⟨(l.map iY).toArray⟩) wr:=by
    refine ua (N:=w.heap.size) ?_;have e:(l.map iY).length=ps.length:=by rw[ZL,j8.o]
    refine⟨by rw[D6];omega,.inr ⟨w.heap.size,ps.length,cur,by rw[e],Zj _,yl.o,by omega,by unfold maxLen;omega,by rw[uP.o];omega,?_⟩⟩;rw[e,Zb.mul_one,HT.o,Zc.take_of_length_le (by rw[j8.o];exact Zj _)]
   clear hG;go_wp2;go_ret;exact⟨rfl,HB.o⟩
def vY(N Ar:Zt)(a:Zb)(k:Zi):Zd:=if k=0 then .nilIface else if k=3 then aG N a else aG Ar a
theorem ahi(hc:w.heap[c]?=O (.cells #[.string s,.int .i64 a,sl] 119 (0,0)))(hl:bY w A l ps)(hr:ao w 36 sl ps)(hn:l.length<=1000){L S N Ar J La:Zt}(hS:fw w L S N Ar J La):
 Zr prog 29 #[.pointer (O ⟨c,0,Za⟩)] w λe w'=>e=.returned (vY N Ar a (gB s l))/\Zf w.heap.size w w':=by
 have HC:=aa hc;have c0:w.cell? ⟨c,0,Za⟩=O (.string s):=by simp[Zl,hc]
 have sh:XX (∀W,Zf w.heap.size w W->W.cell? ⟨c,1,Za⟩=O (.int .i64 a)/\W.cell? ⟨c,2,Za⟩=O sl/\W.cell? ⟨3,0,Za⟩=O (.iface 279 (.pointer (O N)))/\W.cell? ⟨4,0,Za⟩=O (.iface 279 (.pointer (O Ar)))):=λW hW=>by
  have h1:=(hW.block _ (al HC.o)).trans HC.o;have h2:=hS.below hW;refine⟨by simp[Zl,h1],by simp[Zl,h1],?_,?_⟩
  .exact h2.sents.cN
  .exact h2.sents.cA
 have HF:=aa (ahc s w);have O1:XX (∀W,Zf w.heap.size w W->Zr prog 57 #[sl] W λe w'=>e=.returned (.string ⟨(l.map iY).toArray⟩)/\Zf W.heap.size W w'):=λW hW=>ahT (bY.keep (λm hm ai=>⟨hW.block m ai,hm⟩) _ _ hl) (ao.same hr (λk hk=>hW.block k (ao.lt hr hk))) hn
 obtain⟨sx,Cf⟩:∃sx,sx=(⟨(l.map iY).toArray⟩:Zg):=⟨_,rfl⟩
 rw[<-Cf]at O1;have HSX:=aa Cf;clear hc hl hr hS Cf;cases hf:Ee s with
 |none=>
  have HK:XX (vY N Ar a (gB s l)=aG N a):=by show _=_;rw[acJ hf];rfl
  rw[hf]at HF;obtain⟨V,hV⟩:∃V,V=vY N Ar a (gB s l):=⟨_,rfl⟩
  rw[<-hV]at HK⊢;unfold yY at HF;simp only at HF;clear hf hV;go_enter func29,ntmps29;go_wp2_with fail;refine Zh HF.o ?_;rintro e w1 ⟨rfl,ae⟩;have ah:∀o,Zf w.heap.size w (w1.alloc o):=λo=>ae.trans ((Zu _ _).alloc ae.size _)
  have aY:=aa ah;have k1:=λo=>(sh.o _ (ah o)).1
  have k3:=λo=>(sh.o _ (ah o)).2.2.1
  clear ae ah c0;go_wp2_with fail;go_quiet (fail);go_wp2;go_ret;exact⟨by rw[HK.o];rfl,jI (aY.o _) _⟩
 |some x=>
  have hx:=Zc.mem_of_find?_eq_some hf;obtain⟨q1,q2⟩:=ajj hf l;rw[hf]at HF;unfold yY at HF;simp only at HF;have aL:XX (∀W,Zr prog 56 #[.agg #[.string x.1,.string x.2.1,.bool x.2.2],.string sx] W λe w'=>e=.returned (.bool (FK x (l.map iY)))/\Zf W.heap.size W w'):=λW=>by rw[HSX.o];exact ahW x hx _ W (by rw[ZL];exact hn)
  rw[q1]at aL;obtain⟨x0,x1,x2⟩:=x;simp only at HF aL;obtain⟨V,hV⟩:∃V,V=vY N Ar a (gB s l):=⟨_,rfl⟩
  rw[<-hV];have hq:(decide (gB s l=0)=Zp/\V=.nilIface)\/(decide (gB s l=0)=Ze/\V=aG Ar a):=by
   rw[hV];rcases q2 with q|q
   .exact .inl ⟨by rw[q];rfl,by rw[q];rfl⟩
   .exact .inr ⟨by rw[q];rfl,by rw[q];rfl⟩
  obtain⟨B,hB⟩:∃B,B=decide (gB s l=0):=⟨_,rfl⟩
  rw[<-hB]at aL hq;clear hf hx q1 q2 hV hB;have OC:XX (∀(o:Zb) (W:Zk),W.heap[o]?=O (.cells #[.string x0,.string x1,.bool x2] 114 (0,0))->W.cell? ⟨o,0,Za⟩=O (.string x0)/\W.cell? ⟨o,1,Za⟩=O (.string x1)/\W.cell? ⟨o,2,Za⟩=O (.bool x2)):=λo W h=>⟨(xg h).1,(xg h).2.1,(xg h).2.2.1⟩
  rcases hq with⟨rfl,hV⟩|⟨rfl,hV⟩
  all_goals
   have HV:=aa hV;clear hV;go_enter func29,ntmps29;go_wp2_with fail;refine Zh HF.o ?_;rintro e w1 ⟨rfl,ae⟩;obtain⟨W2,jA⟩:∃W2,W2=w1.alloc (.cells #[.string x0,.string x1,.bool x2] 114):=⟨_,rfl⟩
   have ah:Zf w.heap.size w W2:=by rw[jA];exact ae.trans ((Zu _ _).alloc ae.size _)
   have l7:W2.heap[w1.heap.size]?=O (.cells #[.string x0,.string x1,.bool x2] 114 (0,0)):=by rw[jA];exact aE rfl
   have aY:=aa ah;have cF:=aa l7;obtain⟨k1,k2,k3,k4⟩:=sh.o _ ah;obtain⟨f0,f1,f2⟩:=OC.o _ _ l7;have aar:=aa (O1.o W2.drew ah.drew);clear ae ah l7 c0;go_wp2_with fail;rw[<-jA];clear jA
   go_region_with (first
    | (go_at_call 57;refine Zh aar.o ?_;rintro e w4 ⟨rfl,aB⟩;(obtain⟨g0,g1,g2⟩:=OC.o w1.heap.size w4 ((aB.block _ (al cF.o)).trans cF.o));(have bq:XX (Zf w.heap.size w w4):=aY.o.trans ((jI (Zu _ _) 1).trans (aB.mono (by exact Zj _)) |>.mono aY.o.size)))
    |(go_at_call 56;refine Zh (aL.o _) ?_;rintro e w5 ⟨rfl,bP⟩;(have gM:XX (Zf w.heap.size w w5):=bq.o.trans (bP.mono bq.o.size));(obtain⟨m1,m2,m3,m4⟩:=sh.o w5 gM.o)))
   all_goals
    clear m2 m3 g0 g1 g2 f0 f1 f2 k1 k2 k3 k4 aB bP
    first
    |(go_wp2_with fail;go_ret;exact⟨by rw[HV.o];rfl,gM.o⟩)
    |(go_wp2_with fail;go_quiet (fail);go_wp2;go_ret;exact⟨by rw[HV.o];rfl,jI gM.o _⟩)
end Go.Proofs.YtdlgkgfeoiohiaaGreatDoor
