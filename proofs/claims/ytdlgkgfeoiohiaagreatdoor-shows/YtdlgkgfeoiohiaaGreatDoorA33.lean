/- Part 33. -/
import Derived.Test.YtdlgkgfeoiohiaaGreatDoorA32
open Bool renaming true -> Ze,false -> Zg,or_assoc -> ZI
open Go renaming Value -> Zc,World -> Zj,Addr -> Zo,Calls -> Zw,bodyPost_ret -> ZA,callFunc -> ZB
open Go.Calls renaming mono -> Zf
open Go.Proofs renaming enters_of -> ZG
open Go.RowKit renaming Below -> Zk
open Go.RowKit.Below renaming refl -> Zq,heap_setCell -> Zt,heap_alloc -> ZH
open Go.Value renaming ownBlock -> Zr
open Go.World renaming cell? -> Zl,frozen? -> Zx,ownsRow_nil -> ZO,setCell -> ZP
open Go.World.ownsRow renaming alloc -> ZC
open List renaming append_assoc -> Zy,append_nil -> ZJ,getElem?_eq_getElem -> ZK,length_append -> ZL,length_eq_zero_iff -> ZM,length_singleton -> ZN
open Nat renaming le_refl -> Zi,le_trans -> Zv,lt_of_lt_of_le -> Zz
open Option renaming some -> O,none -> Zb
open _root_ renaming Nat -> Za,List -> Zd,Int -> Zh,Bool -> Zm,if_neg -> Zn,if_pos -> Zp,ByteArray -> Zu,beq_eq_false_iff_ne -> ZD,bne_iff_ne -> ZE
namespace Go.Proofs.YtdlgkgfeoiohiaaGreatDoor
set_option linter.unusedVariables false
set_option maxHeartbeats 16000000
set_option maxRecDepth 100000
open Go.RowKit J Go.Proofs.Tryz
variable {m n N bx gg cap j:Za}{sl u x:Zc}{w1 w3 w2 w:Zj}{l:Zd Nd}{ob:Zc->Obj}{new ps:Zd Zc}{ex:Za->PR}{inn:bc}{A:Za->Prop}
theorem bY.len:∀{l:Zd Nd} {ps:Zd Zc},bY w A l ps->ps.length=l.length
 |[],ps,h=>by unfold bY at h;subst h;rfl
 |y::l,ps,h=>by
  unfold bY at h;obtain⟨p,ps',e,_,h2⟩:=h;subst e;simp[bY.len h2]
theorem Fj:(prog.info? 36).map (λi=>(i.zero,i.size,i.bytes))=O (O .nilIface,1,16):=by kernel_rfl
section
variable {w w':Zj} {b:Za} {V:Za->Prop} {T:Zd (aj×Za)} {g tc:Za} {S:Zo} {i:Za} {d:Zh} {lg:Zm} {cv cv':Zc} {cs:Zd Zc}
def TB(V:Za->Prop)(m:Za)(cv sl:Zc)(k:Za):Prop:=(V k\/m<k)/\cv.ownBlock≠O k/\sl.ownBlock≠O k
structure lT(m:Za)(sl:Zc)(w1 w3:Zj):Prop where
 os:w3.os=w1.os
 tape:w3.tape=w1.tape
 output:w3.output=w1.output
 size:w1.heap.size<=w3.heap.size
 block:∀k,k<w1.heap.size->k≠m->sl.ownBlock≠O k->w3.heap[k]?=w1.heap[k]?
theorem lT.of{o:Za}{ob:Obj}(h:(w1.alloc ob).grownBy w2 sl.ownBlock):lT m sl w1 (w2.setCell ⟨m,o,Zb⟩ u):=
 ⟨h.os,h.tape,h.output,by have:=h.size;simp at this;simp[ZP];omega,λk h1 h2 h3=>by
  rw[Zt _ _ _ _ (by simpa using h2),h.block k (by simp;omega) (λe=>h3 e.symm),ZH _ _ _ h1]⟩
theorem ZS.grew(h:ZS w b V T g tc S i d lg cv cs)(hg:lT m sl w w3)(hm:b<m)(oG:cv.ownBlock≠O m)(km:∀k,sl.ownBlock=O k->b<k/\cv.ownBlock≠O k):ZS w3 b V T g tc S i d lg cv cs:=
 ⟨(hg.block b (al h.blk) (by omega) (λe=>by have:=(km b e).1;omega)).trans h.blk,h.toks.keep (b:=b) (λk h1 h2=>hg.block k h2 (by omega) (λe=>by have:=(km k e).1;omega)) h.gb h.vb h.sb,h.row.same (λk hk=>hg.block k (h.row.lt hk) (λe=>oG (by rw[<-e];exact hk)) (λe=>(km k e).2 hk)),h.sep,h.gb,h.vb,h.sb,h.tl,h.last,h.cl⟩
theorem ZF.grew(h:ZF N b cv cv' w w1)(hg:lT m sl w1 w3)(hN:N<=m)(hs:N<=w1.heap.size)(km:∀k,sl.ownBlock=O k->N<=k):ZF N b cv cv' w w3:=
 ⟨hg.os.trans h.os,hg.tape.trans h.tape,hg.output.trans h.output,Zv h.size hg.size,λk h1 h2 h3=>(hg.block k (by omega) (by omega) (λe=>by have:=km k e;omega)).trans (h.block k h1 h2 h3),h.own⟩
theorem lT.keep(hg:lT m sl w1 w3)(hV:∀k,V k->k<m)(cQ:sl.ownBlock=O gg\/w1.heap.size<gg):∀k,TB V m cv sl k->k<w1.heap.size->w3.heap[k]?=w1.heap[k]?/\TB V m cv (.slice (O ⟨gg,0,Zb⟩) n cap) k:=by
 intro k hk ai;have bj:k≠m:=by rcases hk.1 with h|h;have:=hV k h;omega;omega
 refine⟨hg.block k ai bj hk.2.2,hk.1,hk.2.1,?_⟩;intro e;have e:gg=k:=by simpa[Zr]using e
 subst e;rcases cQ with h|h
 .exact hk.2.2 h
 .omega
theorem ZF.keepT(h:ZF w.heap.size b cv cv' w w')(hV:∀m,V m->m<b)(hb:b<m):∀k,TB V m cv sl k->k<w.heap.size->w'.heap[k]?=w.heap[k]?/\TB V m cv' sl k:=by
 intro k hk ai;have bj:k≠b:=by rcases hk.1 with h1|h1;have:=hV k h1;omega;omega
 exact⟨h.block k ai bj hk.2.1,hk.1,λe=>by rcases h.own k e with e|e;exact hk.2.1 e;omega,hk.2.2⟩
abbrev wX:=Zj->Zc->Zd Zc->Prop
structure GA(RW:wX):Prop where
 same:∀{w w':Zj} {v:Zc} {xs:Zd Zc},RW w v xs->(∀k,v.ownBlock=O k->w'.heap[k]?=w.heap[k]?)->RW w' v xs
 lt:∀{w:Zj} {v:Zc} {xs:Zd Zc} {k:Za},RW w v xs->v.ownBlock=O k->k<w.heap.size
def Gu:wX:=λW v xs=>ao W 36 v xs
theorem Ct:GA Gu:=⟨λh hs=>ao.same h hs,λh hk=>ao.lt h hk⟩
def oi(ty:TypeId)(sl:Zc):Obj:=.cells #[sl] ty (0,0)
structure LV(RW:wX)(bx m b:Za)(V:Za->Prop)(ob:Zc->Obj)(W:Zj)(cv:Zc)(l:Zd Nd)(new:Zd Zc)(sl:Zc)(ps:Zd Zc):Prop where
 box:W.heap[bx]?=O (jq b)
 var:W.heap[m]?=O (ob sl)
 cm:cv.ownBlock≠O m/\cv.ownBlock≠O bx
 row:RW W sl ps
 own:∀k,sl.ownBlock=O k->m<k/\cv.ownBlock≠O k
 nps:bY W (TB V m cv sl) l ps
 cls:bO (CP W (TB V m cv sl)) (jc l) new
def Gs(bx m b:Za)(V:Za->Prop)(ob:Zc->Obj)(W:Zj)(cv:Zc)(ks:Zd Zu)(l:Zd Nd)(new:Zd Zc):Prop:=ks=[]/\∃sl ps,LV Gu bx m b V ob W cv l new sl ps
def AX(bx m b:Za)(ob:Zc->Obj)(W:Zj):Prop:=W.heap[bx]?=O (jq b)/\∃sl,W.heap[m]?=O (ob sl)
theorem LV.but{RW:wX}(hw:GA RW)(h:LV RW bx m b V ob w cv l new sl ps)(hb:ab b w w')(hV:∀m,V m->m<b)(h1:b<bx)(h2:b<m):LV RW bx m b V ob w' cv l new sl ps:=by
 have k:∀k,TB V m cv sl k->k<w.heap.size->w'.heap[k]?=w.heap[k]?/\TB V m cv sl k:=λk hk ai=>⟨hb.block k ai (by
  have:k≠b:=by rcases hk.1 with q|q;have:=hV k q;omega;omega
  simpa using this),hk⟩
 exact⟨(hb.block _ (al h.box) (by simp;omega)).trans h.box,(hb.block _ (al h.var) (by simp;omega)).trans h.var,h.cm,hw.same h.row (λk hk=>hb.block k (hw.lt h.row hk) (by have:=(h.own k hk).1;simp;omega)),h.own,bY.keep k _ _ h.nps,h.cls.mono (λa c hac=>hac.keep k)⟩
theorem LV.read{RW:wX}(hw:GA RW)(h:LV RW bx m b V ob w cv l new sl ps)(hf:ZF w.heap.size b cv cv' w w')(hV:∀m,V m->m<b)(h1:b<bx)(h2:b<m):LV RW bx m b V ob w' cv' l new sl ps:=by
 have k:=hf.keepT (sl:=sl) (V:=V) hV h2;have jY:=al h.box;have hm:=al h.var;refine⟨(hf.block _ jY (by omega) h.cm.2).trans h.box,(hf.block _ hm (by omega) h.cm.1).trans h.var,⟨λe=>?_,λe=>?_⟩,hw.same h.row (λq hq=>hf.block q (hw.lt h.row hq) (by have:=(h.own q hq).1;omega) (h.own q hq).2),λq hq=>⟨(h.own q hq).1,λe=>?_⟩,bY.keep k _ _ h.nps,h.cls.mono (λa c hac=>hac.keep k)⟩
 .rcases hf.own m e with e|e
  .exact h.cm.1 e
  .omega
 .rcases hf.own bx e with e|e
  .exact h.cm.2 e
  .omega
 .have:=hw.lt h.row hq;rcases hf.own q e with e|e
  .exact(h.own q hq).2 e
  .omega
theorem LV.more{RW RW':wX}{new2:Zd Zc}{y:Nd}(h:LV RW bx m b V ob w cv l new sl ps)(hg:lT m sl w w3)(hV:∀m,V m->m<b)(h0:b<bx)(h1:bx<m)(h2:b<m)(qd:w3.heap[m]?=O (ob (.slice (O ⟨gg,0,Zb⟩) n cap)))(aO:RW' w3 (.slice (O ⟨gg,0,Zb⟩) n cap) (ps++[x]))(cQ:sl.ownBlock=O gg\/w.heap.size<gg)(oE:cv.ownBlock≠O gg)
 (hx:NP w (TB V m cv sl) y x) (hc:bO (CP w (TB V m cv sl)) (gC y) new2):LV RW' bx m b V ob w3 cv (l++[y]) (new++new2) (.slice (O ⟨gg,0,Zb⟩) n cap) (ps++[x]):=by
 have k:=hg.keep (V:=V) (cv:=cv) (gg:=gg) (n:=n) (cap:=cap) (λq hq=>by have:=hV q hq;omega) cQ;have hm:=al h.var;refine⟨(hg.block _ (al h.box) (by omega) (λe=>by have:=(h.own _ e).1;omega)).trans h.box,qd,h.cm,aO,λq hq=>?_,bY.snoc (NP.keep k _ _ hx) (bY.keep k _ _ h.nps),?_⟩
 .have e:gg=q:=by simpa[Zr]using hq
  subst e;refine⟨?_,oE⟩;rcases cQ with e|e
  .exact(h.own _ e).1
  .omega
 .rw[D7];exact bO.append (h.cls.mono (λa c hac=>hac.keep k)) (hc.mono (λa c hac=>hac.keep k))
theorem ab4:∀args W,(ZB 254 args).run prog W=.ok (.enter 254 args) W:=ZG func254 (by kernel_rfl) rfl
theorem ak4(hp:dW T ex n 26)(hd:d+(n:Zh)=12)(cy:0<=d)(h0:b<N)(Hi:N<=bx)(h1:bx<m)
 (W:Zj) (cv1:Zc) (cs1:Zd Zc) (lg1:Zm) (ks:Zd Zu) (l:Zd Nd) (new:Zd Zc) (j:Za) (h:ZS W b V T g tc S j d lg1 cv1 cs1) (hj:j<T.length) (hv:Gs bx m b V (oi 291) W cv1 ks l new) (hN:N<=W.heap.size) (mc:l.length<=j):
 Zw prog 254 #[.pointer (O ⟨bx,0,Zb⟩),.pointer (O ⟨m,0,Zb⟩)] W λe w'=>∃er i' lg' cv' cs',e=.returned er/\eI er/\ZF N b cv1 cv' W w'/\ZS w' b V T g tc S i' d lg' cv' cs'/\i'<T.length/\AX bx m b (oi 291) w'/\XX (wY (kn ex j) S er i' lg1 lg' cs1 cs' (Gs bx m b V (oi 291) w' cv') ks l new):=by
 obtain⟨rfl,sl,ps,hL⟩:=hv;have dN:=aa (hp W b V g tc S j lg1 cv1 cs1 d hd cy h hj);unfold cK at dN;have c0:=lz hL.box;have HL:=aa hL;have aV:=aa h.vb;have iE:=h.tl;have em:ps.length<=100000:=by
  have:=bY.len hL.nps;omega
 clear h hp hL;go_enter func254,ntmps254;go_wp2_with fail;refine Zf dN.o ?_;rintro e w1 ⟨x,er,i1,lg2,cv2,cs2,rfl,hx,bR,bC,ay,aU,aW⟩;have eH:=aa (HL.o.read Ct bC aV.o (by omega) (by omega));have gO:=aa (bC.mono hN);have eM:=aa ay;have ee:=bC.size;have c3:w1.cell? ⟨m,0,Zb⟩=O sl:=by simp[Zl,eH.o.var,oi]
 obtain⟨X,hX⟩:∃X,X=x:=⟨_,rfl⟩
 have HX:=aa hX;have pW:X.oneCell'=Ze:=by rw[hX];exact hx.one
 rw[<-hX]at aW;have rb:XX (∀k,sl.ownBlock=O k->k<W.heap.size):=λk hk=>Ct.lt HL.o.row hk
 have R6:m<W.heap.size:=al HL.o.var;clear hX ay bC c0 dN;rcases hx with rfl|⟨tx,vx,rfl⟩
 all_goals
  go_wp2_with (at_builtin;refine pP rfl (.tmp 10) (.tmp 12) 291 36 rfl .nilIface 16 Fj rfl underlying291 (by decide) sl ps rfl ?h1 _ _ X rfl ?h2 pW ?h3 _ rfl ?_)
  case h1=>exact ZC eH.o.row _
  case h2=>rw[HX.o];exact my rfl
  case h3=>omega
  intro gg cap w2 ph an cQ ai;have hG:∀u,lT m sl w1 (w2.setCell ⟨m,0,Zb⟩ u):=λu=>lT.of an
  have jz:w2.heap[m]?=O (.cells #[sl] 291 (0,0)):=by
   rw[an.block m (by simp;omega) (by intro e;have:=(eH.o.own _ e.symm).1;omega)];exact cj eH.o.var
  have cN:w2.cell? ⟨m,0,Zb⟩=O sl:=by simp[Zl,jz]
  have fN:w2.frozen? ⟨m,0,Zb⟩=Zg:=by simp[Zx,jz]
  have lI:sl.ownBlock=O gg\/w1.heap.size<gg:=cQ.imp_right (λe=>by have e':gg=w1.heap.size+1:=e;omega);have LM:m<gg:=by
   rcases lI with e|e
   .exact(eH.o.own _ e).1
   .omega
  have HG:=aa hG;have dT:=aa ph;have so:=aa jz;have wL:=aa lI;clear hG ph an cQ ai jz lI c3;go_wp2_with fail;go_ret;have hg:=HG.o (.slice (O ⟨gg,0,Zb⟩) (ps.length+1) cap);have qd:(w2.setCell ⟨m,0,Zb⟩ (.slice (O ⟨gg,0,Zb⟩) (ps.length+1) cap)).heap[m]?=O (.cells #[.slice (O ⟨gg,0,Zb⟩) (ps.length+1) cap] 291 (0,0)):=cY so.o _;refine⟨er,i1,lg2,cv2,cs2,rfl,bR,gO.o.grew hg (by omega) (by omega) (λk hk=>by have:=(eH.o.own k hk).1;omega),eM.o.grew hg (by omega) eH.o.cm.1 (λk hk=>⟨by have:=(eH.o.own k hk).1;omega,(eH.o.own k hk).2⟩),aU,⟨(hg.block _ (al eH.o.box) (by omega) (λe=>by have:=(eH.o.own _ e).1;omega)).trans eH.o.box,_,qd⟩,?_⟩;show wY _ _ _ _ _ _ _ _ _ _ _ _;have hr:=aW.o;unfold kn;cases hq:ex j with
  |error p=>rw[hq]at hr;exact hr
  |ok r=>
   rw[hq]at hr;obtain⟨q1,q2,q3,q4,new2,q5,q6⟩:=hr;have oE:cv2.ownBlock≠O gg:=by
    intro e;rcases wL.o with e2|e2
    .exact(eH.o.own _ e2).2 e
    .have:=eM.o.row.lt e;omega
   have kk:∀k,((V k\/W.heap.size<=k)/\cv2.ownBlock≠O k)->k<w1.heap.size->w1.heap[k]?=w1.heap[k]?/\TB V m cv2 sl k:=λk hk _=>⟨rfl,hk.1.imp_right (λq=>by omega),hk.2,λe=>by
    have e2:=rb.o k e;have e3:=(eH.o.own k e).1;rcases hk.1 with q|q
    .have:=aV.o k q;omega
    .omega⟩
   refine⟨q1,q2,q3,new2,q5,rfl,_,ps++[X],eH.o.more hg aV.o (by omega) h1 (by omega) qd ?_ wL.o oE (NP.keep kk _ _ q4) (q6.mono (λa c hac=>hac.keep kk))⟩;refine ao.same dT.o (λk hk=>Zt _ _ _ _ ?_);have e:gg=k:=by simpa[Zr]using hk
   simp;omega
end
section
variable {w w':Zj} {b:Za} {V:Za->Prop} {T:Zd (aj×Za)} {g tc:Za} {S:Zo} {i:Za} {d:Zh} {lg:Zm} {cv cv':Zc} {cs:Zd Zc}
def Tg(R:Except Za (Zd Zu×Zd Nd×Za)):PR:=match R with
 |.error e=>.error e
 |.ok y=>.ok (dn m8 y.2.1,y.2.2)
def Fo(T:Zd (aj×Za))(ex:Za->PR)(i:Za):PR:=Tg (qR T (kn ex) eU i)
theorem ak5(hp:dW T ex n 26)(hm:jx ex)(hd:d+(n:Zh)=12)(cy:0<=d)(h:ZS w b V T g tc S i d lg cv cs)(hi:i<T.length)(hN:N<=w.heap.size):
 cK T N b V g tc S d lg cv cs (Fo T ex i) 246 #[.pointer (O ⟨b,0,Zb⟩)] w:=by
 have ed:b<w.heap.size:=al h.blk;obtain⟨W,hW⟩:∃W,W=(w.alloc (jq b)).alloc (.cells #[.slice Zb 0 0] 291):=⟨_,rfl⟩
 have hB:Zk w.heap.size w W:=by rw[hW];exact((Zq _ w).alloc (Zi _) _).alloc (by simp) _
 have jY:W.heap[w.heap.size]?=O (jq b):=by rw[hW];exact cj (aE rfl)
 have zP:W.heap[w.heap.size+1]?=O (.cells #[.slice Zb 0 0] 291 (0,0)):=by rw[hW];exact aE (by simp)
 have lN:=h.below hB;have fE:∀k,cv.ownBlock=O k->k<w.heap.size:=λk hk=>h.row.lt hk
 have hL:Gs w.heap.size (w.heap.size+1) b V (oi 291) W cv [] [] []:=⟨rfl,.slice Zb 0 0,[],jY,zP,⟨λe=>by have:=fE _ e;omega,λe=>by have:=fE _ e;omega⟩,ZO _ _ _ _,λk hk=>by simp[Zr]at hk,bY.nil _ _,trivial⟩
 have lr:W.heap.size=w.heap.size+2:=by rw[hW];simp
 have HR:=aa (Ol (w:=W) (N:=w.heap.size) ab4 (S9 hm) (Gs w.heap.size (w.heap.size+1) b V (oi 291)) (AX w.heap.size (w.heap.size+1) b (oi 291))
  (λW1 W2 cv1 ks l new hv hb=>⟨hv.1,by obtain⟨_,sl,ps,hl⟩:=hv;exact⟨sl,ps,hl.but Ct hb h.vb ed (by omega)⟩⟩)
  (λW1 W2 hv hb=>⟨(hb.block _ (al hv.1) (by simp;omega)).trans hv.1,by obtain⟨_,sl,hl⟩:=hv;exact⟨sl,(hb.block _ (al hl) (by simp;omega)).trans hl⟩⟩)
  (λW1 cv1 cs1 lg1 ks l new j hs hj hv _ jz mc=>ak4 hp hd cy ed (Zi _) (by omega) W1 cv1 cs1 lg1 ks l new j hs hj hv jz mc)
  ⟨#[93]⟩ (by decide) lN hi hL ⟨jY,_,zP⟩ (by omega))
 have c0:=lz jY;have HB:=aa hB;have aV:=aa h.vb;unfold cK;obtain⟨Rt,eJ⟩:∃Rt,Rt=qR T (kn ex) ⟨#[93]⟩ i:=⟨_,rfl⟩
 have nO:XX (Fo T ex i=Tg Rt):=by show _=_;rw[eJ];rfl
 rw[<-eJ]at HR;obtain⟨RZ,fy⟩:∃RZ,RZ=Fo T ex i:=⟨_,rfl⟩
 rw[<-fy]at nO⊢;clear h hp hm hB jY zP lN fE hL lr eJ fy;unfold jq at hW;subst hW;go_enter func246,ntmps246;go_wp2_with fail;refine Zf HR.o ?_;rintro e w1 ⟨er,i1,lg1,cv1,cs1,rfl,bR,bC,ay,aU,dE,aW⟩;have gO:XX (ZF N b cv cv1 w w1):=(ZF.of_below HB.o hN).trans (bC.mono hN);have eM:=aa ay;have hr:=aW.o;unfold Gx at hr;obtain⟨sl0,zK⟩:=dE.2;cases Rt with
 |error p=>
  have hr:er=aG S p:=hr;subst hr;have c1:w1.cell? ⟨w.heap.size+1,0,Zb⟩=O sl0:=by simp[Zl,zK,oi]
  clear aW bC ay dE bR zK;rw[aG];go_wp2_with fail;go_ret2;exact⟨_,aG S p,i1,lg1,cv1,cs1,rfl,.inr ⟨_,_,rfl⟩,nr S p,gO.o,eM.o,aU,by rw[nO.o];exact rfl⟩
 |ok y=>
  obtain⟨rfl,rfl,q3,new,q5,_,sl,ps,hl⟩:=hr;have c1:w1.cell? ⟨w.heap.size+1,0,Zb⟩=O sl:=by simp[Zl,hl.var,oi]
  have HL:=aa hl;have HQ:=aa (And.intro q3 q5);clear aW bC ay dE bR zK q3 q5 hl;go_wp2_with fail;go_ret2;refine⟨_,.nilIface,y.2.2,lg1,cv1,cs1,rfl,.inr ⟨_,_,rfl⟩,.inl rfl,gO.o,eM.o,aU,?_⟩;show ZR _ _ _ _ _ _ _ _ _ _ _;rw[nO.o];have k:∀k,TB V (w.heap.size+1) cv1 sl k->k<w1.heap.size->w1.heap[k]?=w1.heap[k]?/\((V k\/N<=k)/\cv1.ownBlock≠O k):=λk hk _=>⟨rfl,hk.1.imp_right (λq=>by omega),hk.2.1⟩
  refine ZR.ok (r:=(dn m8 y.2.1,y.2.2)) (new:=new) ?_ ?_ HQ.o.2 ?_
  .rw[DW (by decide)];exact HQ.o.1
  .refine NP.mkL (bY.keep k _ _ HL.o.nps) (.list ⟨HL.o.row,λk hk=>⟨.inr (by have:=(HL.o.own k hk).1;omega),(HL.o.own k hk).2⟩⟩)
  .rw[D8 (by decide)];exact HL.o.cls.mono (λa c hac=>hac.keep k)
end
section
variable {w w':Zj} {b:Za} {V:Za->Prop} {T:Zd (aj×Za)} {g tc:Za} {S:Zo} {i:Za} {d:Zh} {lg:Zm} {cv cv':Zc} {cs:Zd Zc}
def DU(T:Zd (aj×Za))(ex:Za->PR)(i:Za):PR:=if ag T i eF then tr eF (ex (i+1))else ex i
theorem akQ(hp:dW T ex n 26):dW T (DU T ex) n 260:=by
 intro w b V g tc S i lg cv cs d hd cy h hi;have HT:=aa (qk h hi ⟨#[38]⟩);have eu:XX (ag T i ⟨#[38]⟩=Ze->i+1<T.length):=λe=>h.sgn_more hi e
 have HP:=aa hp;unfold cK;unfold DU;rw[show eF=⟨#[38]⟩from rfl];obtain⟨B,hB⟩:∃B,B=ag T i ⟨#[38]⟩:=⟨_,rfl⟩
 rw[<-hB]at HT eu⊢;clear h hp hB;cases B
 .rw[Zn (by simp)];go_enter func260,ntmps260;go_wp2_with fail;refine Zf HT.o ?_;rintro e w1 ⟨rfl,ae,ay⟩;simp only[Zm.false_eq_true,if_false]at ay;have HC:=aa (HP.o w1 b V g tc S i lg cv cs d hd cy ay hi);unfold cK at HC;go_wp2_with fail;refine Zf HC.o ?_;rintro e w2 ⟨x,er,i1,lg1,cv1,cs1,rfl,hx,bR,bC,cB,aU,aW⟩;go_wp2_with fail;go_ret2;exact⟨x,er,i1,lg1,cv1,cs1,rfl,hx,bR,(ZF.of_but ae (Zi _)).trans (bC.mono ae.size),cB,aU,aW.o.up ae.size⟩
 .rw[Zp rfl];go_enter func260,ntmps260;go_wp2_with fail;refine Zf HT.o ?_;rintro e w1 ⟨rfl,ae,ay⟩;simp only[if_true]at ay;have HC:=aa (HP.o w1 b V g tc S (i+1) lg cv cs d hd cy ay (eu.o (by first|rfl|trivial)));unfold cK at HC;go_wp2_with fail;refine Zf HC.o ?_;rintro e w2 ⟨x,er,i1,lg1,cv1,cs1,rfl,hx,bR,bC,cB,aU,aW⟩;have HR:XX (ZR (tr ⟨#[38]⟩ (ex (i+1))) w2 (λm=>(V m\/w.heap.size<=m)/\cv1.ownBlock≠O m) S (.iface 179 (.agg #[x])) er i1 lg lg1 cs cs1):=ZR.wrap (by decide) (by decide) .expr (aW.o.up ae.size);have HF:XX (ZF w.heap.size b cv cv1 w w2):=(ZF.of_but ae (Zi _)).trans (bC.mono ae.size);have HS:=aa cB;clear aW bC cB ae ay HC;rcases hx with rfl|⟨t5,z5,rfl⟩
  all_goals
   go_wp2_with fail;go_ret2;exact⟨_,er,i1,lg1,cv1,cs1,rfl,.inr ⟨_,_,rfl⟩,bR,HF.o,HS.o,aU,HR.o⟩
theorem ajy(k:Zh):(aS k=3\/aS k=4)↔(k=119\/k=113):=by
 unfold aS;constructor
 .intro h
  repeat' split at h
  all_goals omega
 .rintro(h|h) <;> rw[h] <;> decide
def aaL(T:Zd (aj×Za))(i:Za)(S:Zo)(s:Zu)(er:Zc)(i':Za):Prop:=
 ((bp T i).kind=119\/(bp T i).kind=113)/\er=.nilIface/\s=(bp T i).txt/\i'=i+1\/¬((bp T i).kind=119\/(bp T i).kind=113)/\er=aG S (bE T i)
theorem Wa(h:ZS w b V T g tc S i d lg cv cs)(hi:i<T.length):
 Zw prog 250 #[.pointer (O ⟨b,0,Zb⟩)] w λe w'=>∃s er i',e=.returned (.tuple #[.string s,er])/\eI er/\ab b w w'/\ZS w' b V T g tc S i' d lg cv cs/\i'<T.length/\XX (aaL T i S s er i'):=by
 obtain⟨x,hx⟩:∃x,T[i]?=O x:=⟨_,ZK hi⟩
 have ht:bp T i=x.1:=by rw[bp,hx]
 have HN:=aa (uK h hx);have HS:=aa h;have iE:=h.tl;have sn:XX (x.1.kind=119\/x.1.kind=113->i+1<T.length):=λe=>h.more hi (by rw[ht];omega) (by rw[ht];omega)
 have HT:=aa ht;have kN:=ajy x.1.kind;obtain⟨kd,fg⟩:∃kd,kd=aS x.1.kind:=⟨_,rfl⟩
 rw[<-fg]at HN kN;have OL:=aa kN;clear h hx ht fg kN;by_cases hk:kd=3\/kd=4
 .have HK:=OL.o.1 hk;have aU:=sn.o HK;have Ge:=aa HK;have e3:kd=3\/(kd≠3/\kd=4):=by omega
  clear hk HK;rcases e3 with rfl|⟨n3,rfl⟩
  all_goals
   go_enter func250,ntmps250;go_wp2_with fail;refine Zf HN.o ?_;rintro e w2 ⟨v,rfl,ah,hv,_⟩;rw[aI];have ap:∀o,ab b w (w2.alloc o):=λo=>((ab.refl b w).of_below ah).alloc o
   have bm:∀o,ZS (w2.alloc o) b V T g tc S i d lg cv cs:=λo=>HS.o.below (ah.trans ((Zq _ _).alloc ah.size _))
   have bo:=aa ap;have jb:=aa bm;have z1:∀o,(w2.alloc o).cell? ⟨b,1,Zb⟩=O (.int .i64 i):=λo=>(jF (bm o).blk).2.1
   have zf:∀o,(w2.alloc o).frozen? ⟨b,1,Zb⟩=Zg:=λo=>(jF (bm o).blk).2.2.2.2.2 1
   clear ah ap bm;rcases hv with rfl|⟨tv,xv,rfl⟩
   .go_wp2_with fail;go_ret2;exact⟨_,.nilIface,i+1,rfl,.inl rfl,(bo.o _).setCell _ _,(jb.o _).at (by go_num),aU,.inl ⟨by rw[HT.o];exact Ge.o,rfl,by rw[HT.o],rfl⟩⟩
   .go_wp2_with fail;go_ret2;exact⟨_,.nilIface,i+1,rfl,.inl rfl,(bo.o _).setCell _ _,(jb.o _).at (by go_num),aU,.inl ⟨by rw[HT.o];exact Ge.o,rfl,by rw[HT.o],rfl⟩⟩
 .have HK:¬(x.1.kind=119\/x.1.kind=113):=λe=>hk (OL.o.2 e)
  have Ge:=aa HK;have e3:(kd==3)=Zg:=ZD.2 (λe=>hk (.inl e));have e4:(kd==4)=Zg:=ZD.2 (λe=>hk (.inr e));have n3:(kd != 3)=Ze:=ZE.2 (λe=>hk (.inl e));have n4:(kd != 4)=Ze:=ZE.2 (λe=>hk (.inr e));clear hk HK;have HW:XX (∀W,Zk w.heap.size w W->Zw prog 28 #[.pointer (O ⟨b,0,Zb⟩)] W λe w'=>e=.returned (aG S (bE T i))/\Zk W.heap.size W w'):=λW hW=>uL (HS.o.below hW) hi
  go_enter func250,ntmps250;go_wp2_with fail;refine Zf HN.o ?_;rintro e w2 ⟨v,rfl,ah,hv,_⟩;rw[aI];have ap:∀o,Zk w.heap.size w (w2.alloc o):=λo=>ah.trans ((Zq _ _).alloc ah.size _)
  have bo:=aa ap;clear ah ap;rcases hv with rfl|⟨tv,xv,rfl⟩
  all_goals
   go_wp2_with fail;refine Zf (HW.o _ (bo.o _)) ?_;rintro e w4 ⟨rfl,aB⟩;rw[aG];go_wp2_with fail;go_ret2;have bP:=(bo.o _).trans (aB.mono (bo.o _).size);exact⟨_,aG S (bE T i),i,rfl,nr _ _,(ab.refl b w).of_below bP,HS.o.below bP,hi,.inr ⟨by rw[HT.o];exact Ge.o,rfl⟩⟩
end
theorem GH(m:Za)(x0 x1:Zc)(W:Zj)(hb:W.heap[m]?=O (.cells #[x0,x1] 295 (0,0))):(loadVar 295 ⟨m,0,Zb⟩).run prog W=.ok (.agg #[x0,x1]) W:=by
 have c0:W.cell? ⟨m,0,Zb⟩=O x0:=by simp[Zl,hb]
 have c1:W.cell? ⟨m,1,Zb⟩=O x1:=by simp[Zl,hb]
 simp[loadVar,isAgg,underlying,underlying295,loadCells,loadCellsFrom,Zo.add,c0,c1,Result.andThen]
theorem GI{x0 x1:Zc}{t:TypeId}(h:w.heap[m]?=O (.cells #[x0,x1] t (0,0)))(y0 y1:Zc):((w.setCell ⟨m,0,Zb⟩ y0).setCell ⟨m,1,Zb⟩ y1).heap[m]?=O (.cells #[y0,y1] t (0,0)):=cY (cY h y0) y1
theorem Ja(k:Zh):aS k=7↔k=110:=by
 unfold aS;constructor
 .intro h
  repeat' split at h
  all_goals omega
 .intro h;rw[h];decide
section
variable {w w':Zj} {b:Za} {V:Za->Prop} {T:Zd (aj×Za)} {g tc:Za} {S:Zo} {i:Za} {d:Zh} {lg:Zm} {cv cv':Zc} {cs:Zd Zc}
theorem ZS.setm(h:ZS w b V T g tc S i d lg cv cs)(hm:b<m)(oG:cv.ownBlock≠O m):ZS (w.setCell ⟨m,j,Zb⟩ u) b V T g tc S i d lg cv cs:=
 ⟨(Zt _ _ _ _ (by simp;omega)).trans h.blk,h.toks.keep (b:=b) (λk hk ai=>Zt _ _ _ _ (by simp;omega)) h.gb h.vb h.sb,h.row.same (λk hk=>Zt _ _ _ _ (by intro e;apply oG;rw[hk];congr 1)),h.sep,h.gb,h.vb,h.sb,h.tl,h.last,h.cl⟩
theorem ab.setNew(h:ab b w w')(hm:w.heap.size<=m):ab b w (w'.setCell ⟨m,j,Zb⟩ u):=
 ⟨h.os,h.tape,h.output,by simpa[ZP]using h.size,λk hk hn=>(Zt _ _ _ _ (by simp;omega)).trans (h.block k hk hn)⟩
theorem Oi(h:ZS w b V T g tc S i d lg cv cs)(hi:i<T.length):
 Zw prog 261 #[.pointer (O ⟨b,0,Zb⟩)] w λe w'=>e=.returned (.agg #[.bool (aZ T i).2.1,.int .i64 (aZ T i).1])/\ab b w w'/\ZS w' b V T g tc S (aZ T i).2.2 d lg cv cs/\(aZ T i).2.2<T.length:=by
 obtain⟨x,hx⟩:∃x,T[i]?=O x:=⟨_,ZK hi⟩
 have ht:bp T i=x.1:=by rw[bp,hx]
 have iE:=h.tl;obtain⟨W,hW⟩:∃W,W=w.alloc (.cells #[.bool Zg,.int .i64 0] 295):=⟨_,rfl⟩
 have hB:Zk w.heap.size w W:=by rw[hW];exact(Zq _ w).alloc (Zi _) _
 have jK:W.heap[w.heap.size]?=O (.cells #[.bool Zg,.int .i64 0] 295 (0,0)):=by rw[hW];exact aE rfl
 have lN:=h.below hB;have HN:=aa (uK lN hx);have fL:=aa lN;have HB:=aa hB;have yD:=aa jK;have ed:b<w.heap.size:=al h.blk;have AJ:XX (cv.ownBlock=O w.heap.size->False):=λe=>by have:=h.row.lt e;omega
 by_cases hk:x.1.kind=110
 .have hR:aZ T i=(x.1.num,Ze,i+1):=by rw[aZ,ht,Zp hk]
  have aU:i+1<T.length:=h.more hi (by rw[ht,hk];decide) (by rw[ht,hk];decide);rw[hR];rw[(Ja _).2 hk]at HN;clear hR h lN hB jK ht hx hk;subst hW;go_enter func261,ntmps261;go_wp2_with fail;refine Zf HN.o ?_;rintro e w2 ⟨v,rfl,ah,hv,_⟩;rw[aI];have aY:=aa ah;have bm:∀o,ZS (w2.alloc o) b V T g tc S i d lg cv cs:=λo=>fL.o.below (ah.trans ((Zq _ _).alloc ah.size _))
  have jb:=aa bm;have z1:∀o,(w2.alloc o).cell? ⟨b,1,Zb⟩=O (.int .i64 i):=λo=>(jF (bm o).blk).2.1
  have zf:∀o,(w2.alloc o).frozen? ⟨b,1,Zb⟩=Zg:=λo=>(jF (bm o).blk).2.2.2.2.2 1
  have fh:w2.heap[w.heap.size]?=O (.cells #[.bool Zg,.int .i64 0] 295 (0,0)):=(ah.block _ (by simp)).trans yD.o;have lO:w.heap.size<w2.heap.size:=al fh;have r0:∀o,(w2.alloc o).cell? ⟨w.heap.size,0,Zb⟩=O (.bool Zg):=λo=>by simp[Zl,cj fh]
  have r1:∀o,(w2.alloc o).cell? ⟨w.heap.size,1,Zb⟩=O (.int .i64 0):=λo=>by simp[Zl,cj fh]
  have rf:∀o q,(w2.alloc o).frozen? ⟨w.heap.size,q,Zb⟩=Zg:=λo q=>by simp[Zx,cj fh]
  have q0:w2.cell? ⟨w.heap.size,0,Zb⟩=O (.bool Zg):=by simp[Zl,fh]
  have q1:w2.cell? ⟨w.heap.size,1,Zb⟩=O (.int .i64 0):=by simp[Zl,fh]
  have qf:∀q,w2.frozen? ⟨w.heap.size,q,Zb⟩=Zg:=λq=>by simp[Zx,fh]
  have iK:=aa fh;clear bm ah fh;rcases hv with rfl|⟨tv,xv,rfl⟩
  .go_wp2_with fail;have Mk:((w2.alloc (.cells #[.int .i64 7,.int .i64 x.2,.string x.1.txt,.int .i64 x.1.num,.nilIface,.bool (eL x.1)] 63)).setCell ⟨b,1,Zb⟩ (.int .i64 ((i:Zh)+1))).heap[w.heap.size]?=O (.cells #[.bool Zg,.int .i64 0] 295 (0,0)):=(Zt _ _ _ _ (by simp;omega)).trans (cj iK.o);have hl:=GH w.heap.size _ _ _ (GI Mk (.bool Ze) (.int .i64 x.1.num));refine ZA (v:=.agg #[.bool Ze,.int .i64 x.1.num]) (by simp[results,results261,asAddr];exact hl) rfl ?_;have fE:cv.ownBlock≠O w.heap.size:=λe=>AJ.o e
   exact⟨rfl,(((((ab.refl b w).of_below HB.o).of_below aY.o).alloc _).setCell _ _).setNew (Zi _) |>.setNew (Zi _),(((jb.o _).at (by go_num)).setm ed fE).setm ed fE,aU⟩
  .go_wp2_with fail;have Mk:((w2.alloc (.cells #[.int .i64 7,.int .i64 x.2,.string x.1.txt,.int .i64 x.1.num,(.iface tv xv),.bool (eL x.1)] 63)).setCell ⟨b,1,Zb⟩ (.int .i64 ((i:Zh)+1))).heap[w.heap.size]?=O (.cells #[.bool Zg,.int .i64 0] 295 (0,0)):=(Zt _ _ _ _ (by simp;omega)).trans (cj iK.o);have hl:=GH w.heap.size _ _ _ (GI Mk (.bool Ze) (.int .i64 x.1.num));refine ZA (v:=.agg #[.bool Ze,.int .i64 x.1.num]) (by simp[results,results261,asAddr];exact hl) rfl ?_;have fE:cv.ownBlock≠O w.heap.size:=λe=>AJ.o e
   exact⟨rfl,(((((ab.refl b w).of_below HB.o).of_below aY.o).alloc _).setCell _ _).setNew (Zi _) |>.setNew (Zi _),(((jb.o _).at (by go_num)).setm ed fE).setm ed fE,aU⟩
 .have hR:aZ T i=(0,Zg,i):=by rw[aZ,ht,Zn hk]
  rw[hR];obtain⟨kd,fg⟩:∃kd,kd=aS x.1.kind:=⟨_,rfl⟩
  have n7:(kd != 7)=Ze:=ZE.2 (λe=>hk ((Ja _).1 (by rw[<-fg];exact e)));rw[<-fg]at HN;clear hR h lN hB jK ht hx hk fg;subst hW;go_enter func261,ntmps261;go_wp2_with fail;refine Zf HN.o ?_;rintro e w2 ⟨v,rfl,ah,hv,_⟩;rw[aI];have aY:=aa ah;have bm:∀o,ZS (w2.alloc o) b V T g tc S i d lg cv cs:=λo=>fL.o.below (ah.trans ((Zq _ _).alloc ah.size _))
  have jb:=aa bm;have fh:w2.heap[w.heap.size]?=O (.cells #[.bool Zg,.int .i64 0] 295 (0,0)):=(ah.block _ (by simp)).trans yD.o;have lO:w.heap.size<w2.heap.size:=al fh;have r0:∀o,(w2.alloc o).cell? ⟨w.heap.size,0,Zb⟩=O (.bool Zg):=λo=>by simp[Zl,cj fh]
  have r1:∀o,(w2.alloc o).cell? ⟨w.heap.size,1,Zb⟩=O (.int .i64 0):=λo=>by simp[Zl,cj fh]
  have rf:∀o q,(w2.alloc o).frozen? ⟨w.heap.size,q,Zb⟩=Zg:=λo q=>by simp[Zx,cj fh]
  have q0:w2.cell? ⟨w.heap.size,0,Zb⟩=O (.bool Zg):=by simp[Zl,fh]
  have q1:w2.cell? ⟨w.heap.size,1,Zb⟩=O (.int .i64 0):=by simp[Zl,fh]
  have qf:∀q,w2.frozen? ⟨w.heap.size,q,Zb⟩=Zg:=λq=>by simp[Zx,fh]
  have iK:=aa fh;clear bm ah fh;rcases hv with rfl|⟨tv,xv,rfl⟩
  .go_wp2_with fail;have hl:=GH w.heap.size _ _ _ (cj (o:=.cells #[.int .i64 kd,.int .i64 x.2,.string x.1.txt,.int .i64 x.1.num,.nilIface,.bool (eL x.1)] 63) (GI iK.o (.bool Zg) (.int .i64 0)));refine ZA (v:=.agg #[.bool Zg,.int .i64 0]) (by simp[results,results261,asAddr];exact hl) rfl ?_;have fE:cv.ownBlock≠O w.heap.size:=λe=>AJ.o e
   exact⟨rfl,((((ab.refl b w).of_below HB.o).of_below aY.o).setNew (Zi _) |>.setNew (Zi _)).alloc _,(((fL.o.below aY.o).setm ed fE).setm ed fE).below ((Zq _ _).alloc (Zi _) _),hi⟩
  .go_wp2_with fail;have hl:=GH w.heap.size _ _ _ (cj (o:=.cells #[.int .i64 kd,.int .i64 x.2,.string x.1.txt,.int .i64 x.1.num,(.iface tv xv),.bool (eL x.1)] 63) (GI iK.o (.bool Zg) (.int .i64 0)));refine ZA (v:=.agg #[.bool Zg,.int .i64 0]) (by simp[results,results261,asAddr];exact hl) rfl ?_;have fE:cv.ownBlock≠O w.heap.size:=λe=>AJ.o e
   exact⟨rfl,((((ab.refl b w).of_below HB.o).of_below aY.o).setNew (Zi _) |>.setNew (Zi _)).alloc _,(((fL.o.below aY.o).setm ed fE).setm ed fE).below ((Zq _ _).alloc (Zi _) _),hi⟩
end
section
variable {w w':Zj} {b:Za} {V:Za->Prop} {T:Zd (aj×Za)} {g tc:Za} {S:Zo} {i:Za} {d:Zh} {lg:Zm} {cv cv':Zc} {cs:Zd Zc}
theorem ZR.leaf{op:Zu}{a:Za}{s:Zu}{names:Zd Zu}{n0 n1 n2:Zh}{i0 i1 i2:Zm}(h1:op≠eX)(h2:op≠kr)(h:iL w A op a s names n0 n1 n2 i0 i1 i2 Zb [] x):ZR (.ok (.mk op a s names [] n0 n1 n2 i0 i1 i2 Zb,j)) w A S x .nilIface j lg lg cs cs:=
 ZR.ok (r:=(.mk op a s names [] n0 n1 n2 i0 i1 i2 Zb,j)) (new:=[]) (by rw[eN,decide_eq_false h2,gz];simp) (NP.mk0 h) (by simp) (by rw[gC,Zn h1,jc];exact trivial)
def qS(T:Zd (aj×Za))(inn:bc)(i:Za):PR:=if ag T i fa then(if ag T (i+1) iu then ko T inn (i+1)else fR T inn (i+1))else jy T inn i
def Kv(x0:Nd)(R:Except Za (Zd Nd×Za)):PR:=match R with
 |.error e=>.error e
 |.ok y=>.ok (if y.1.length=1 then x0 else dn fa y.1,y.2)
theorem abz(inn:bc)(i:Za):fb T inn i=match fx T inn i with
 |.error e=>.error e
 |.ok x=>Kv x.1 (d7 T inn T.length [x.1] x.2):=by unfold fb Kv;rfl
theorem PM{f:Za}(h:ag T i fa=Ze\/ag T i iu=Ze):d7 T inn (f+1) l i=match qS T inn i with
 |.error e=>.error e
 |.ok y=>d7 T inn f (l++[y.1]) y.2:=by
 rw[d7,qS];by_cases hd:ag T i fa=Ze
 .rw[Zp hd,Zp hd];generalize (if ag T (i+1) iu=Ze then ko T inn (i+1)else fR T inn (i+1))=R
  cases R <;> rfl
 .rw[Zn hd,Zn hd,Zp (h.resolve_left hd)];generalize jy T inn i=R
  cases R <;> rfl
theorem aiR(hm:nP inn):jx (qS T inn):=by
 intro i x j h;unfold qS at h;split at h
 .split at h
  .have:=Iw hm _ _ _ h;omega
  .have:=IN hm _ _ _ h;omega
 .exact GM hm _ _ _ h
def TC(V:Za->Prop)(N:Za)(cv sl:Zc)(k:Za):Prop:=(V k\/N<=k)/\cv.ownBlock≠O k/\sl.ownBlock≠O k
theorem lT.of0{ob:Obj}(h:(w1.alloc ob).grownBy w2 sl.ownBlock):lT w1.heap.size sl w1 w2:=
 ⟨h.os,h.tape,h.output,by have:=h.size;simp at this;omega,λk h1 h2 h3=>by
  rw[h.block k (by simp;omega) (λe=>h3 e.symm),ZH _ _ _ h1]⟩
theorem lT.keepC(hg:lT w1.heap.size sl w1 w2)(cQ:sl.ownBlock=O gg\/w1.heap.size<gg):∀k,TC V N cv sl k->k<w1.heap.size->w2.heap[k]?=w1.heap[k]?/\TC V N cv (.slice (O ⟨gg,0,Zb⟩) n cap) k:=by
 intro k hk ai;refine⟨hg.block k ai (by omega) hk.2.2,hk.1,hk.2.1,?_⟩;intro e;have e:gg=k:=by simpa[Zr]using e
 subst e;rcases cQ with h|h
 .exact hk.2.2 h
 .omega
theorem ZF.keepC(h:ZF w.heap.size b cv cv' w w')(hV:∀m,V m->m<b)(hb:b<N):∀k,TC V N cv sl k->k<w.heap.size->w'.heap[k]?=w.heap[k]?/\TC V N cv' sl k:=by
 intro k hk ai;have bj:k≠b:=by rcases hk.1 with h1|h1;have:=hV k h1;omega;omega
 exact⟨h.block k ai bj hk.2.1,hk.1,λe=>by rcases h.own k e with e|e;exact hk.2.1 e;omega,hk.2.2⟩
def CY(T:Zd (aj×Za))(inn:bc)(Rt:PR)(V:Za->Prop)(N:Za)(wr:Zj)(S:Zo)(x er sl:Zc)(ps:Zd Zc)(i':Za)(lg lg':Zm)(cv':Zc)(cs cs':Zd Zc)(gh:Za):Prop:=
 (∃p,er=aG S p/\Rt=.error p/\1<=gh) \/
 (er=.nilIface/\∃x0 l f new,Rt=Kv x0 (d7 T inn f (x0::l) i')/\T.length<=f+i'/\T.length<gh+i'/\lg'=(lg || (eN x0 || gz l))/\NP wr (TC V N cv' sl) x0 x/\bY wr (TC V N cv' sl) l ps/\l.length<=i'/\cs'=cs++new/\bO (CP wr (TC V N cv' sl)) (gC x0++jc l) new)
theorem akV(hinn:nP inn)(hp:dW T (fx T inn) n 237)
 (eo:∀(w:Zj) (b:Za) (V:Za->Prop) (g tc:Za) (S:Zo) (i:Za) (lg:Zm) (cv:Zc) (cs:Zd Zc) (d:Zh),d+(n:Zh)=12->0<=d->ZS w b V T g tc S i d lg cv cs->i+1<T.length->(ag T i fa=Ze\/ag T i iu=Ze)->cK T w.heap.size b V g tc S d lg cv cs (qS T inn i) 238 #[.pointer (O ⟨b,0,Zb⟩)] w):dW T (fb T inn) n 220:=by
 intro w b V g tc S i lg cv cs d hd cy h hi;obtain⟨N,hN⟩:∃N,N=w.heap.size:=⟨_,rfl⟩
 have bT:b<N:=by rw[hN];exact al h.blk
 have aV:=aa h.vb;have sC:=aa eo;have sn:=aa (aiR (T:=T) hinn);obtain⟨Rt,eJ⟩:∃Rt,Rt=fb T inn i:=⟨_,rfl⟩
 have nO:=aa eJ;have iE:=h.tl;have dN:=aa (hp w b V g tc S i lg cv cs d hd cy h hi);unfold cK at dN⊢;rw[<-eJ,<-hN];rw[<-hN]at dN;have HN:=aa hN;clear hp eo h eJ hN hinn;go_enter func220,ntmps220;go_wp2_with fail;refine Zf dN.o ?_;rintro e w1 ⟨x,er,i1,lg1,cv1,cs1,rfl,hx,bR,bC,ay,aU,aW⟩;have Dx:XX (CY T inn Rt V N w1 S x er (.slice Zb 0 0) [] i1 lg lg1 cv1 cs cs1 (T.length+1)):=by
  have hr:=aW.o;unfold ZR at hr;show CY _ _ _ _ _ _ _ _ _ _ _ _ _ _ _ _ _ _;rw[show Rt=fb T inn i from nO.o,abz];cases hq:fx T inn i with
  |error p=>rw[hq]at hr;exact .inl ⟨p,hr,rfl,by omega⟩
  |ok r=>
   rw[hq]at hr;obtain⟨h1,h2,h3,h4,new,h5,h6⟩:=hr;have k:∀k,((V k\/N<=k)/\cv1.ownBlock≠O k)->k<w1.heap.size->w1.heap[k]?=w1.heap[k]?/\TC V N cv1 (.slice Zb 0 0) k:=λk hk _=>⟨rfl,hk.1,hk.2,by simp[Zr]⟩
   exact .inr ⟨h1,r.1,[],T.length,new,by rw[h2],by omega,by omega,by rw[gz,h3];simp,NP.keep k _ _ h4,bY.nil _ _,by simp,h5,by rw[jc,ZJ];exact h6.mono (λa c hac=>hac.keep k)⟩
 go_wp2_with fail;go_loopg [5,6] (T.length+1) (λgh ev sv wr=>∃i' lg' cv' cs' ps,ZF N b cv cv' w wr/\ZS wr b V T g tc S i' d lg' cv' cs'/\i'<T.length/\eI ev/\ao wr 36 sv ps/\(∀k,sv.ownBlock=O k->N<=k/\cv'.ownBlock≠O k)/\XX (CY T inn Rt V N wr S x ev sv ps i' lg lg' cv' cs cs' gh))
 case atStart=>exact⟨i1,lg1,cv1,cs1,[],bC,ay,aU,bR,ZO _ _ _ _,λk hk=>by simp[Zr]at hk,Dx.o⟩
 case round=>
  obtain⟨i2,lg2,cv2,cs2,ps,l7,cB,dL,he2,aO,am,nz⟩:=hrel;clear bC ay aU bR Dx aW dN;have cF:=aa l7;have fj:=aa cB;have dT:=aa aO;have jS:=aa am;rcases nz.o with⟨p,rfl,pV,hg⟩|⟨rfl,x0,l,f,new,dU,rz,hg,oH,kP,Ma,mc,gF,cG⟩
  .rcases aO.len with⟨rfl,_⟩|⟨gg,cap,rfl,_⟩
   all_goals
    clear l7 cB aO am nz;rw[aG];go_wp2_with fail;go_ret2;exact⟨x,aG S p,i2,lg2,cv2,cs2,rfl,hx,nr S p,cF.o,fj.o,dL,by rw[pV];exact rfl⟩
  .obtain⟨f',rfl⟩:∃f',f=f'+1:=⟨f-1,by omega⟩
   obtain⟨tx,zx,In⟩:=kP.isif;subst In;have pG:=aa (pD cB dL ⟨#[46]⟩);have mq:XX (∀W,Zk wr.heap.size wr W->Zw prog 138 #[.pointer (O ⟨b,0,Zb⟩),.string ⟨#[91]⟩] W λe w'=>e=.returned (.bool (ag T i2 ⟨#[91]⟩))/\Zk W.heap.size W w'):=λW hW=>pD (cB.below hW) dL _
   have eu:XX (∀s,ag T i2 s=Ze->i2+1<T.length):=λs e=>cB.sgn_more dL e
   have tP:=aa dU;have ra:=aa (show _/\NP wr (TC V N cv2 u6) x0 (.iface tx zx)/\bY wr (TC V N cv2 u6) l ps/\cs2=cs++new/\bO (CP wr (TC V N cv2 u6)) (gC x0++jc l) new from⟨oH,kP,Ma,gF,cG⟩);have em:ps.length=l.length:=bY.len Ma;have amu:ps.length<=100000:=by omega
   have Dw:=aa em;clear em;obtain⟨B1,dX⟩:∃B,B=ag T i2 ⟨#[46]⟩:=⟨_,rfl⟩
   obtain⟨B2,bZ⟩:∃B,B=ag T i2 ⟨#[91]⟩:=⟨_,rfl⟩
   rw[<-dX]at pG;rw[<-bZ]at mq;have aT:=aa dX;have aY:=aa bZ;have AC:XX (B1=Zg->B2=Zg->∀w3,Zk wr.heap.size wr w3->((l=[]->ZR Rt w3 (λm=>(V m\/N<=m)/\cv2.ownBlock≠O m) S (.iface tx zx) .nilIface i2 lg lg2 cs cs2)/\(l≠[]->ZR Rt w3 (λm=>(V m\/N<=m)/\cv2.ownBlock≠O m) S (.iface 277 (.agg #[.iface tx zx,u6])) .nilIface i2 lg lg2 cs cs2))):=λe1 e2 w3 ap=>by
    have hR:Rt=.ok (if(x0::l).length=1 then x0 else dn fa (x0::l),i2):=by
     rw[tP.o,d7,Zn (by rw[show fa=⟨#[46]⟩from rfl,<-aT.o,e1];simp),Zn (by rw[show iu=⟨#[91]⟩from rfl,<-aY.o,e2];simp)];rfl
    obtain⟨q1,q2,q3,q4,q5⟩:=ra.o;have k:∀k,TC V N cv2 u6 k->k<wr.heap.size->w3.heap[k]?=wr.heap[k]?/\((V k\/N<=k)/\cv2.ownBlock≠O k):=λk hk ai=>⟨ap.block k ai,hk.1,hk.2.1⟩
    refine⟨λhl=>?_,λhl=>?_⟩
    .subst hl;rw[hR,Zp (show [x0].length=1 from rfl)];exact ZR.ok (r:=(x0,i2)) (by rw[q1,gz];simp) (NP.keep k _ _ q2) q4 (by rw[jc,ZJ]at q5;exact q5.mono (λa c hac=>hac.keep k))
    .have lK:¬(x0::l).length=1:=by
      intro e;simp at e;exact hl e
     rw[hR,Zn lK];refine ZR.ok (r:=(dn fa (x0::l),i2)) (new:=new) (by rw[DW (by decide),gz];exact q1) ?_ q4 (by rw[D8 (by decide),jc];exact q5.mono (λa c hac=>hac.keep k));refine NP.mkL (ps:=.iface tx zx::ps) ?_ (.chain ⟨dT.o.same (λk hk=>ap.block k (dT.o.lt hk)),λk hk=>⟨.inr (jS.o k hk).1,(jS.o k hk).2⟩⟩);unfold bY;exact⟨_,_,rfl,NP.keep k _ _ q2,bY.keep k _ _ q3⟩
   have AS:XX (B1=Ze\/B2=Ze->∀w3,Zk wr.heap.size wr w3->cK T w3.heap.size b V g tc S d lg2 cv2 cs2 (qS T inn i2) 238 #[.pointer (O ⟨b,0,Zb⟩)] w3):=λe w3 ap=>sC.o w3 b V g tc S i2 lg2 cv2 cs2 d hd cy (fj.o.below ap) (by
    rcases e with e|e
    .exact eu.o _ (by rw[<-aT.o];exact e)
    .exact eu.o _ (by rw[<-aY.o];exact e)) (by
    rcases e with e|e
    .exact .inl (by rw[show fa=⟨#[46]⟩from rfl,<-aT.o];exact e)
    .exact .inr (by rw[show iu=⟨#[91]⟩from rfl,<-aY.o];exact e))
   clear cB l7 dU oH kP Ma gF cG dX bZ nz;unfold cK at AS;rcases(show(B1=Zg/\B2=Zg)\/(B1=Zg/\B2=Ze)\/B1=Ze from by cases B1 <;> cases B2 <;> simp)with⟨e1,e2⟩|⟨e1,e2⟩|e1
   .have Dh:=aa (AC.o e1 e2);subst e1;subst e2;clear AC AS;rcases aO.len with⟨Ii,BX⟩|⟨gg,cap,Ii,_⟩
    .have gG:l=[]:=ZM.1 (by rw[<-Dw.o,BX];rfl);have sk:=aa gG;subst Ii;clear aO am;clear gG;go_wp2_with fail;refine Zf pG.o ?_;rintro e w3 ⟨rfl,ap⟩;go_wp2_with fail;refine Zf (mq.o w3 ap) ?_;rintro e w4 ⟨rfl,aB⟩;have bq:XX (Zk wr.heap.size wr w4):=ap.trans (aB.mono ap.size);go_wp2_with fail;go_ret2;exact⟨_,.nilIface,i2,lg2,cv2,cs2,rfl,.inr ⟨_,_,rfl⟩,.inl rfl,cF.o.trans (ZF.of_below bq.o (cF.o.size' HN.o)),fj.o.below bq.o,dL,(Dh.o w4 bq.o).1 sk.o⟩
    .by_cases gG:l=[]
     .have sk:=aa gG;have BV:((ps.length:Zh)==0)=Ze:=by rw[Dw.o,gG];rfl
      subst Ii;clear aO am;clear gG;go_wp2_with fail;refine Zf pG.o ?_;rintro e w3 ⟨rfl,ap⟩;go_wp2_with fail;refine Zf (mq.o w3 ap) ?_;rintro e w4 ⟨rfl,aB⟩;have bq:XX (Zk wr.heap.size wr w4):=ap.trans (aB.mono ap.size);go_wp2_with fail;go_ret2;exact⟨_,.nilIface,i2,lg2,cv2,cs2,rfl,.inr ⟨_,_,rfl⟩,.inl rfl,cF.o.trans (ZF.of_below bq.o (cF.o.size' HN.o)),fj.o.below bq.o,dL,(Dh.o w4 bq.o).1 sk.o⟩
     .have sk:=aa gG;have BV:((ps.length:Zh)==0)=Zg:=ZD.2 (λe=>gG (ZM.1 (by rw[<-Dw.o];omega)));subst Ii;clear aO am;clear gG;go_wp2_with fail;refine Zf pG.o ?_;rintro e w3 ⟨rfl,ap⟩;go_wp2_with fail;refine Zf (mq.o w3 ap) ?_;rintro e w4 ⟨rfl,aB⟩;have bq:XX (Zk wr.heap.size wr w4):=ap.trans (aB.mono ap.size);go_wp2_with fail;go_ret2;exact⟨_,.nilIface,i2,lg2,cv2,cs2,rfl,.inr ⟨_,_,rfl⟩,.inl rfl,cF.o.trans (ZF.of_below bq.o (cF.o.size' HN.o)),fj.o.below bq.o,dL,(Dh.o w4 bq.o).2 sk.o⟩
   .have pK:=aa (AS.o (.inr e2));have ou:XX (ag T i2 fa=Ze\/ag T i2 iu=Ze):=.inr (by rw[show iu=⟨#[91]⟩from rfl,<-aY.o];exact e2);subst e1;subst e2;clear AC AS;go_wp2_with fail;refine Zf pG.o ?_;rintro e w3 ⟨rfl,ap⟩;go_wp2_with fail;refine Zf (mq.o w3 ap) ?_;rintro e w4 ⟨rfl,aB⟩;have bq:XX (Zk wr.heap.size wr w4):=ap.trans (aB.mono ap.size);clear ap aB;go_wp2_with fail;refine Zf (pK.o w4 bq.o) ?_;rintro e w5 ⟨x5,er5,i5,lg5,cv5,cs5,rfl,oe,BI,nV,im,mM,rO⟩;have Eo:N<=wr.heap.size:=cF.o.size' HN.o;have zd:N<=w4.heap.size:=Zv Eo bq.o.size;have jR:XX (ZF N b cv cv5 w w5):=(cF.o.trans (ZF.of_below bq.o Eo)).trans (nV.mono zd);have lF:=aa im;have ae7:w4.heap.size<=w5.heap.size:=nV.size;have h4r:wr.heap.size<=w4.heap.size:=bq.o.size;have uT:XX (∀k,u6.ownBlock=O k->k<wr.heap.size):=λk hk=>dT.o.lt hk
    have su:XX (∀k,u6.ownBlock=O k->N<=k/\cv5.ownBlock≠O k):=λk hk=>⟨(jS.o k hk).1,λe=>by
     rcases nV.own k e with e|e
     .exact(jS.o k hk).2 e
     .have:=uT.o k hk;have:=bq.o.size;omega⟩
    have J3:XX (ao w5 36 u6 ps):=dT.o.same (λk hk=>(nV.block k (by have:=uT.o k hk;have:=bq.o.size;omega) (by have:=(jS.o k hk).1;omega) (jS.o k hk).2).trans (bq.o.block k (uT.o k hk)));have JP:XX (∀k,TC V N cv2 u6 k->k<wr.heap.size->w5.heap[k]?=wr.heap[k]?/\TC V N cv5 u6 k):=λk hk ai=>by
     have h2:=nV.keepC (N:=N) (sl:=u6) (V:=V) aV.o bT k hk (Zz ai bq.o.size);exact⟨h2.1.trans (bq.o.block k ai),h2.2⟩
    have Do:XX (∀k,((V k\/w4.heap.size<=k)/\cv5.ownBlock≠O k)->k<w5.heap.size->TC V N cv5 u6 k):=λk hk _=>⟨hk.1.imp_right (λq=>by omega),hk.2,λe=>by
     have h1:=uT.o k e;have h2:=(jS.o k e).1;have h3:=bq.o.size;rcases hk.1 with q|q
     .have:=aV.o k q;omega
     .omega⟩
    obtain⟨X,hX⟩:∃X,X=x5:=⟨_,rfl⟩
    have HX:=aa hX;have pW:X.oneCell'=Ze:=by rw[hX];exact oe.one
    rw[<-hX]at rO;clear hX im nV aO am;rcases oe with rfl|⟨t5,z5,rfl⟩
    all_goals
     go_wp2_with (at_builtin;refine pP rfl (.tmp 28) (.tmp 30) 117 36 rfl .nilIface 16 Fj rfl underlying117 (by decide) u6 ps rfl ?_ _ _ X rfl ?_ pW ?_ _ rfl ?_)
     .exact ZC J3.o _
     .rw[HX.o];exact my rfl
     .omega
     .intro gg cap w7 uu an cQ ai;have lI:u6.ownBlock=O gg\/w5.heap.size<gg:=cQ.imp_right (λe=>by have e':gg=w5.heap.size+1:=e;omega);have hG:=lT.of0 an;have oE:cv5.ownBlock≠O gg:=by
       intro e;rcases lI with e2|e2
       .exact(su.o _ e2).2 e
       .have:=lF.o.row.lt e;omega
      have Ld:N<=gg:=by
       rcases lI with e2|e2
       .exact(su.o _ e2).1
       .have:=jR.o.size;omega
      have k7:∀k,TC V N cv5 u6 k->k<w5.heap.size->w7.heap[k]?=w5.heap[k]?/\TC V N cv5 (.slice (O ⟨gg,0,Zb⟩) (ps.length+1) cap) k:=hG.keepC lI;have AD:XX (ZF N b cv cv5 w w7):=jR.o.grew hG (Zv zd (by have:=jR.o.size;omega)) (by have:=jR.o.size;omega) (λk hk=>(su.o k hk).1);have AR:XX (ZS w7 b V T g tc S i5 d lg5 cv5 cs5):=lF.o.grew hG (by have:=jR.o.size;omega) (λe=>by have:=lF.o.row.lt e;omega) (λk hk=>⟨by have:=(su.o k hk).1;omega,(su.o k hk).2⟩);have Dd:XX (CY T inn Rt V N w7 S (.iface tx zx) er5 (.slice (O ⟨gg,0,Zb⟩) (ps.length+1) cap) (ps++[X]) i5 lg lg5 cv5 cs cs5 (gk-1)):=by
       have hr:=rO.o;unfold ZR at hr;have eJ:=tP.o;rw[PM ou.o]at eJ;obtain⟨q1,q2,q3,q4,q5⟩:=ra.o;cases hq:qS T inn i2 with
       |error p=>rw[hq]at hr eJ;exact .inl ⟨p,hr,eJ,by omega⟩
       |ok y=>
        rw[hq]at hr eJ;obtain⟨p1,p2,p3,p4,new2,p5,p6⟩:=hr;have zD:=sn.o i2 y.1 y.2 hq;have kk:∀k,TC V N cv2 u6 k->k<wr.heap.size->w7.heap[k]?=wr.heap[k]?/\TC V N cv5 (.slice (O ⟨gg,0,Zb⟩) (ps.length+1) cap) k:=λk hk ai=>by
         have h1:=JP.o k hk ai;have h2:=k7 k h1.2 (by have:=bq.o.size;have:=jR.o.size;exact Zz ai (by omega));exact⟨h2.1.trans h1.1,h2.2⟩
        refine .inr ⟨p1,x0,l++[y.1],f',new++new2,by rw[p2];exact eJ,by omega,by omega,?_,NP.keep kk _ _ q2,bY.snoc (NP.keep k7 _ _ (NP.keep (λk hk ai=>⟨rfl,Do.o k hk ai⟩) _ _ p4)) (bY.keep kk _ _ q3),by rw[ZL,ZN];omega,by rw[p5,q4,Zy],?_⟩
        .rw[p3,q1,Kp];simp only[ZI]
        .rw[D7,<-Zy];exact bO.append (q5.mono (λa c hac=>hac.keep kk)) (p6.mono (λa c hac=>(hac.keep (λk hk ai=>⟨rfl,Do.o k hk ai⟩)).keep k7))
      have J4:=aa uu;clear uu an cQ ai lI hG k7;go_wp2;go_roundg (gk-1)
      case measure=>omega
      case rel=>exact⟨i5,lg5,cv5,cs5,ps++[X],AD.o,AR.o,mM,BI,J4.o,λk hk=>by
       have e:gg=k:=by simpa[Zr]using hk
       subst e;exact⟨Ld,oE⟩,Dd.o⟩
   .have pK:=aa (AS.o (.inl e1));have ou:XX (ag T i2 fa=Ze\/ag T i2 iu=Ze):=.inl (by rw[show fa=⟨#[46]⟩from rfl,<-aT.o];exact e1);subst e1;clear AC AS;go_wp2_with fail;refine Zf pG.o ?_;rintro e w4 ⟨rfl,aB⟩;have bq:XX (Zk wr.heap.size wr w4):=aB;clear aB;go_wp2_with fail;refine Zf (pK.o w4 bq.o) ?_;rintro e w5 ⟨x5,er5,i5,lg5,cv5,cs5,rfl,oe,BI,nV,im,mM,rO⟩;have Eo:N<=wr.heap.size:=cF.o.size' HN.o;have zd:N<=w4.heap.size:=Zv Eo bq.o.size;have jR:XX (ZF N b cv cv5 w w5):=(cF.o.trans (ZF.of_below bq.o Eo)).trans (nV.mono zd);have lF:=aa im;have ae7:w4.heap.size<=w5.heap.size:=nV.size;have h4r:wr.heap.size<=w4.heap.size:=bq.o.size;have uT:XX (∀k,u6.ownBlock=O k->k<wr.heap.size):=λk hk=>dT.o.lt hk
    have su:XX (∀k,u6.ownBlock=O k->N<=k/\cv5.ownBlock≠O k):=λk hk=>⟨(jS.o k hk).1,λe=>by
     rcases nV.own k e with e|e
     .exact(jS.o k hk).2 e
     .have:=uT.o k hk;have:=bq.o.size;omega⟩
    have J3:XX (ao w5 36 u6 ps):=dT.o.same (λk hk=>(nV.block k (by have:=uT.o k hk;have:=bq.o.size;omega) (by have:=(jS.o k hk).1;omega) (jS.o k hk).2).trans (bq.o.block k (uT.o k hk)));have JP:XX (∀k,TC V N cv2 u6 k->k<wr.heap.size->w5.heap[k]?=wr.heap[k]?/\TC V N cv5 u6 k):=λk hk ai=>by
     have h2:=nV.keepC (N:=N) (sl:=u6) (V:=V) aV.o bT k hk (Zz ai bq.o.size);exact⟨h2.1.trans (bq.o.block k ai),h2.2⟩
    have Do:XX (∀k,((V k\/w4.heap.size<=k)/\cv5.ownBlock≠O k)->k<w5.heap.size->TC V N cv5 u6 k):=λk hk _=>⟨hk.1.imp_right (λq=>by omega),hk.2,λe=>by
     have h1:=uT.o k e;have h2:=(jS.o k e).1;have h3:=bq.o.size;rcases hk.1 with q|q
     .have:=aV.o k q;omega
     .omega⟩
    obtain⟨X,hX⟩:∃X,X=x5:=⟨_,rfl⟩
    have HX:=aa hX;have pW:X.oneCell'=Ze:=by rw[hX];exact oe.one
    rw[<-hX]at rO;clear hX im nV aO am;rcases oe with rfl|⟨t5,z5,rfl⟩
    all_goals
     go_wp2_with (at_builtin;refine pP rfl (.tmp 28) (.tmp 30) 117 36 rfl .nilIface 16 Fj rfl underlying117 (by decide) u6 ps rfl ?_ _ _ X rfl ?_ pW ?_ _ rfl ?_)
     .exact ZC J3.o _
     .rw[HX.o];exact my rfl
     .omega
     .intro gg cap w7 uu an cQ ai;have lI:u6.ownBlock=O gg\/w5.heap.size<gg:=cQ.imp_right (λe=>by have e':gg=w5.heap.size+1:=e;omega);have hG:=lT.of0 an;have oE:cv5.ownBlock≠O gg:=by
       intro e;rcases lI with e2|e2
       .exact(su.o _ e2).2 e
       .have:=lF.o.row.lt e;omega
      have Ld:N<=gg:=by
       rcases lI with e2|e2
       .exact(su.o _ e2).1
       .have:=jR.o.size;omega
      have k7:∀k,TC V N cv5 u6 k->k<w5.heap.size->w7.heap[k]?=w5.heap[k]?/\TC V N cv5 (.slice (O ⟨gg,0,Zb⟩) (ps.length+1) cap) k:=hG.keepC lI;have AD:XX (ZF N b cv cv5 w w7):=jR.o.grew hG (Zv zd (by have:=jR.o.size;omega)) (by have:=jR.o.size;omega) (λk hk=>(su.o k hk).1);have AR:XX (ZS w7 b V T g tc S i5 d lg5 cv5 cs5):=lF.o.grew hG (by have:=jR.o.size;omega) (λe=>by have:=lF.o.row.lt e;omega) (λk hk=>⟨by have:=(su.o k hk).1;omega,(su.o k hk).2⟩);have Dd:XX (CY T inn Rt V N w7 S (.iface tx zx) er5 (.slice (O ⟨gg,0,Zb⟩) (ps.length+1) cap) (ps++[X]) i5 lg lg5 cv5 cs cs5 (gk-1)):=by
       have hr:=rO.o;unfold ZR at hr;have eJ:=tP.o;rw[PM ou.o]at eJ;obtain⟨q1,q2,q3,q4,q5⟩:=ra.o;cases hq:qS T inn i2 with
       |error p=>rw[hq]at hr eJ;exact .inl ⟨p,hr,eJ,by omega⟩
       |ok y=>
        rw[hq]at hr eJ;obtain⟨p1,p2,p3,p4,new2,p5,p6⟩:=hr;have zD:=sn.o i2 y.1 y.2 hq;have kk:∀k,TC V N cv2 u6 k->k<wr.heap.size->w7.heap[k]?=wr.heap[k]?/\TC V N cv5 (.slice (O ⟨gg,0,Zb⟩) (ps.length+1) cap) k:=λk hk ai=>by
         have h1:=JP.o k hk ai;have h2:=k7 k h1.2 (by have:=bq.o.size;have:=jR.o.size;exact Zz ai (by omega));exact⟨h2.1.trans h1.1,h2.2⟩
        refine .inr ⟨p1,x0,l++[y.1],f',new++new2,by rw[p2];exact eJ,by omega,by omega,?_,NP.keep kk _ _ q2,bY.snoc (NP.keep k7 _ _ (NP.keep (λk hk ai=>⟨rfl,Do.o k hk ai⟩) _ _ p4)) (bY.keep kk _ _ q3),by rw[ZL,ZN];omega,by rw[p5,q4,Zy],?_⟩
        .rw[p3,q1,Kp];simp only[ZI]
        .rw[D7,<-Zy];exact bO.append (q5.mono (λa c hac=>hac.keep kk)) (p6.mono (λa c hac=>(hac.keep (λk hk ai=>⟨rfl,Do.o k hk ai⟩)).keep k7))
      have J4:=aa uu;clear uu an cQ ai lI hG k7;go_wp2;go_roundg (gk-1)
      case measure=>omega
      case rel=>exact⟨i5,lg5,cv5,cs5,ps++[X],AD.o,AR.o,mM,BI,J4.o,λk hk=>by
       have e:gg=k:=by simpa[Zr]using hk
       subst e;exact⟨Ld,oE⟩,Dd.o⟩
end
section
variable {w w':Zj} {b:Za} {V:Za->Prop} {T:Zd (aj×Za)} {g tc:Za} {S:Zo} {i:Za} {d:Zh} {lg:Zm} {cv cv':Zc} {cs:Zd Zc}
theorem cK.up{M:Za}{R:PR}{fn:Za}{args:Array Zc}(h:cK T M b V g tc S d lg cv cs R fn args w)(hNM:N<=M):cK T N b V g tc S d lg cv cs R fn args w:=by
 unfold cK at h⊢;refine Zf h ?_;rintro e w1 ⟨x,er,i1,lg1,cv1,cs1,h1,h2,h3,h4,h5,h6,h7⟩;exact⟨x,er,i1,lg1,cv1,cs1,h1,h2,h3,h4.mono hNM,h5,h6,h7.o.up hNM⟩
def lH(T:Zd (aj×Za))(n:Za)(Rin:Za->Za->PR)(i:Za):PR:=match n with
 |0=>.error (bE T i)
 |n'+1=>Rin n' (i+1)
def IP(Rin:Za->Za->PR)(n j:Za):PR:=match n with
 |0=>.error 0
 |n'+1=>Rin n' j
theorem FV{n fn:Za}{Rin:Za->Za->PR}(eg:∀args W,(ZB fn args).run prog W=.ok (.enter fn args) W)(hr:∀n',n=n'+1->dW T (Rin n') n' fn)(hd:d+(n:Zh)=12)(cy:0<=d)(h:ZS w b V T g tc S i d lg cv cs)(hi:i+1<T.length):
 cK T w.heap.size b V g tc S d lg cv cs (lH T n Rin i) 186 #[.pointer (O ⟨b,0,Zb⟩),.func (.func fn) #[.pointer (O ⟨b,0,Zb⟩)] #[]] w:=by
 have hz:=Oj (N:=w.heap.size) (n:=n) (Rin:=IP Rin n) (.inl ⟨rfl,rfl⟩) eg hd cy h hi (Zi _) (al h.blk) (λn' hn W hW hs=>by
  subst hn;exact(hr n' rfl W b V g tc S (i+1) lg cv cs (d+1) (by omega) (by omega) hs hi).up hW.size)
 have e:Bm T n (IP Rin n) i=lH T n Rin i:=by cases n <;> rfl
 rw[e]at hz;exact hz
def xa(T:Zd (aj×Za))(n':Za)(j:Za):PR:=match fH T (fA T (bV T n'),fm T (bV T n') 3) j with
 |.error e=>.error e
 |.ok x=>gY T eU x.1 x.2
def Cp(T:Zd (aj×Za))(n':Za)(j:Za):PR:=Fo T (fm T (bV T n') 3) j
theorem PG(n:Za):jy T (bV T n) i=lH T n (xa T) i:=by
 cases n with
 |zero=>rfl
 |succ n=>unfold jy lH xa;rfl
theorem Tj(n:Za):ko T (bV T n) i=lH T n (Cp T) i:=by
 cases n with
 |zero=>rfl
 |succ n=>
  unfold ko lH Cp Fo qR;rw[bV];simp only;cases dY T (kn (fm T (bV T n) 3)) T.length [] [] (i+1)with
  |error e=>rfl
  |ok y=>
   simp only[gY];by_cases hs:ag T y.2.2 eU=Ze
   .rw[Zp hs,Zp hs];rfl
   .rw[Zn hs,Zn hs];rfl
theorem ab1:∀args W,(ZB 245 args).run prog W=.ok (.enter 245 args) W:=ZG func245 (by kernel_rfl) rfl
theorem ab3:∀args W,(ZB 246 args).run prog W=.ok (.enter 246 args) W:=ZG func246 (by kernel_rfl) rfl
theorem V9{n':Za}(hp:dW T (fm T (bV T n') 3) n' 26):dW T (Cp T n') n' 246:=λw b V g tc S i lg cv cs d hd cy h hi=>
 ak5 hp (Ag (tn n') 3) hd cy h hi (Zi _)
theorem alh(hinn:yK T n)(oC:∀n',n=n'+1->dW T (xa T n') n' 245)(fQ:dW T (fR T (bV T n)) n 244)
 (w:Zj) (b:Za) (V:Za->Prop) (g tc:Za) (S:Zo) (i:Za) (lg:Zm) (cv:Zc) (cs:Zd Zc) (d:Zh) (hd:d+(n:Zh)=12) (cy:0<=d) (h:ZS w b V T g tc S i d lg cv cs) (hi:i+1<T.length) (jD:ag T i fa=Ze\/ag T i iu=Ze):cK T w.heap.size b V g tc S d lg cv cs (qS T (bV T n) i) 238 #[.pointer (O ⟨b,0,Zb⟩)] w:=by
 have HI:=aa (pD h (by omega) ⟨#[91]⟩);have iE:=h.tl;have HS:=aa h;have lU:=aa oC;have sy:=aa fQ;have WQ:XX (∀n',n=n'+1->dW T (Cp T n') n' 246):=λn' hn=>by subst hn;exact V9 hinn.2
 by_cases hs:ag T i ⟨#[91]⟩=Ze
 .have hR:qS T (bV T n) i=lH T n (xa T) i:=by
   rw[qS,Zn (by rw[Aj hs (by decide)];simp),PG]
  rw[hR];rw[hs]at HI;have HD:XX (∀W,Zk w.heap.size w W->_):=λW hW=>FV (w:=W) ab1 lU.o hd cy (HS.o.below hW) hi
  unfold cK at HD⊢;clear h oC fQ hR jD hs;go_enter func238,ntmps238;go_wp2_with fail;refine Zf HI.o ?_;rintro e w1 ⟨rfl,ae⟩;go_wp2_with fail;refine Zf (HD.o w1 ae) ?_;rintro e w2 ⟨x,er,i1,lg1,cv1,cs1,rfl,hx,bR,bC,ay,aU,aW⟩;go_wp2_with fail;go_ret2;exact⟨x,er,i1,lg1,cv1,cs1,rfl,hx,bR,(ZF.of_below ae (Zi _)).trans (bC.mono ae.size),ay,aU,aW.o.up ae.size⟩
 .have RE:ag T i fa=Ze:=jD.resolve_right hs;have Ih:ag T i ⟨#[91]⟩=Zg:=by simpa using hs
  rw[Ih]at HI;have hR:qS T (bV T n) i=if ag T (i+1) ⟨#[91]⟩then lH T n (Cp T) (i+1)else fR T (bV T n) (i+1):=by
   rw[qS,Zp RE,show iu=⟨#[91]⟩from rfl,Tj]
  rw[hR];have mq:XX (∀W,ZS W b V T g tc S (i+1) d lg cv cs->Zw prog 138 #[.pointer (O ⟨b,0,Zb⟩),.string ⟨#[91]⟩] W λe w'=>e=.returned (.bool (ag T (i+1) ⟨#[91]⟩))/\Zk W.heap.size W w'):=λW hW=>pD hW hi _
  have eu:XX (ag T (i+1) ⟨#[91]⟩=Ze->i+1+1<T.length):=λe=>(h.below (Zq _ w)).at (i':=i+1) (x:=((i:Zh)+1)) (by simp) |>.sgn_more hi e
  obtain⟨B,hB⟩:∃B,B=ag T (i+1) ⟨#[91]⟩:=⟨_,rfl⟩
  rw[<-hB]at mq eu⊢;unfold cK;clear h oC fQ hR jD hs RE Ih hB;cases B
  .rw[Zn (by simp)];have HD:XX (∀W,ZS W b V T g tc S (i+1) d lg cv cs->_):=λW hW=>sy.o W b V g tc S (i+1) lg cv cs d hd cy hW hi
   unfold cK at HD;go_enter func238,ntmps238;go_wp2_with fail;refine Zf HI.o ?_;rintro e w1 ⟨rfl,ae⟩;have eM:=aa (HS.o.below ae);have fL:XX (ZS (w1.setCell ⟨b,1,Zb⟩ (.int .i64 ((i:Zh)+1))) b V T g tc S (i+1) d lg cv cs):=eM.o.at (by simp);have tG:XX (ZF w.heap.size b cv cv w (w1.setCell ⟨b,1,Zb⟩ (.int .i64 ((i:Zh)+1)))):=(ZF.of_below ae (Zi _)).setb _ _;obtain⟨y0,y1,y2,y3,y4,yf⟩:=jF eM.o.blk;clear y0 y2 y3 y4 ae;go_wp2_with fail;refine Zf (mq.o _ fL.o) ?_;rintro e w2 ⟨rfl,ah⟩;go_wp2_with fail;refine Zf (HD.o w2 (fL.o.below ah)) ?_;rintro e w3 ⟨x,er,i1,lg1,cv1,cs1,rfl,hx,bR,bC,ay,aU,aW⟩;go_wp2_with fail;go_ret2;have hz:w.heap.size<=w2.heap.size:=Zv tG.o.size ah.size;exact⟨x,er,i1,lg1,cv1,cs1,rfl,hx,bR,(tG.o.trans (ZF.of_below ah tG.o.size)).trans (bC.mono hz),ay,aU,aW.o.up hz⟩
  .rw[Zp rfl];have rD:=eu.o rfl;have HD:XX (∀W,ZS W b V T g tc S (i+1) d lg cv cs->_):=λW hW=>FV (w:=W) ab3 WQ.o hd cy hW rD
   unfold cK at HD;go_enter func238,ntmps238;go_wp2_with fail;refine Zf HI.o ?_;rintro e w1 ⟨rfl,ae⟩;have eM:=aa (HS.o.below ae);have fL:XX (ZS (w1.setCell ⟨b,1,Zb⟩ (.int .i64 ((i:Zh)+1))) b V T g tc S (i+1) d lg cv cs):=eM.o.at (by simp);have tG:XX (ZF w.heap.size b cv cv w (w1.setCell ⟨b,1,Zb⟩ (.int .i64 ((i:Zh)+1)))):=(ZF.of_below ae (Zi _)).setb _ _;obtain⟨y0,y1,y2,y3,y4,yf⟩:=jF eM.o.blk;clear y0 y2 y3 y4 ae;go_wp2_with fail;refine Zf (mq.o _ fL.o) ?_;rintro e w2 ⟨rfl,ah⟩;go_wp2_with fail;refine Zf (HD.o w2 (fL.o.below ah)) ?_;rintro e w3 ⟨x,er,i1,lg1,cv1,cs1,rfl,hx,bR,bC,ay,aU,aW⟩;go_wp2_with fail;go_ret2;have hz:w.heap.size<=w2.heap.size:=Zv tG.o.size ah.size;exact⟨x,er,i1,lg1,cv1,cs1,rfl,hx,bR,(tG.o.trans (ZF.of_below ah tG.o.size)).trans (bC.mono hz),ay,aU,aW.o.up hz⟩
end
end Go.Proofs.YtdlgkgfeoiohiaaGreatDoor
