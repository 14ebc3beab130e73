/- Part 19. -/
import Derived.Test.YtdlgkgfeoiohiaaGreatDoorA14
import Derived.Test.YtdlgkgfeoiohiaaGreatDoorA17
import Derived.Test.YtdlgkgfeoiohiaaGreatDoorA18
open Bool renaming false -> Zc,true -> Zi
open Go renaming World -> Zh,Value -> Zk,Addr -> Zl,Calls -> Zo
open Go.Addr renaming add_lit -> ZB
open Go.RowKit renaming Below -> Zt
open Go.RowKit.Below renaming heap_setCell -> Zw
open Go.Value renaming ownBlock -> Zz
open Go.World renaming cell? -> Zn,frozen? -> ZC,setCell -> ZD
open Go.World.ownsRow renaming alloc -> ZE
open Nat renaming le_refl -> Zp,le_trans -> Zx,zero_le -> Zy
open Option renaming some -> O,none -> Za
open Sum renaming inr -> ZA
open _root_ renaming Nat -> Zb,if_neg -> Zd,Int -> Ze,Bool -> Zf,if_pos -> Zg,ByteArray -> Zj,List -> Zm,Array -> Zq,Except -> Zr,beq_eq_false_iff_ne -> Zu,congrArg -> Zv
namespace Go.Proofs.YtdlgkgfeoiohiaaGreatDoor
set_option linter.unusedVariables false
set_option maxHeartbeats 16000000
set_option maxRecDepth 100000
open Go.RowKit J Tryz
variable {J L S A La:Zl}{s:Zj}{w w':Zh}{k b N n j M k' j':Zb}{lg lg':Zf}{x er:Zk}{r:Zb×Ze}
theorem ace(h:dS w)(hb:bh N b w w')(hG:15<=b)(hN:15<=N):dS w':=by
 obtain⟨h1,⟨m,h2⟩,te,pe,h3⟩:=h;exact⟨UV h1 hb hG hN,⟨m,lm h2 (hb.block _ (by omega) (by omega))⟩,te,pe,lm h3 (hb.block _ (by omega) (by omega))⟩
def pO{σ:Type}(s:Zj)(J:Zl)(R:Zr Zb (σ×Zb×Zf))(er:Zk)(j k':Zb)(lg':Zf)(P:σ->Prop):Prop:=
 match R with
 |.error p=>er=aG J p
 |.ok r=>er=.nilIface/\k'=r.2.1/\lg'=r.2.2/\P r.1/\j<=k'/\k'<=s.size
theorem Uv{σ:Type}(fn:Zb)(cap:Zq Zk)(Inv:σ->Zb->Zh->Prop)(step:σ->Zb->Zf->Zr Zb (σ×Zb×Zf))(T:Zb->Zf->Zb->Zf->σ->Zr Zb (σ×Zb×Zf))(b:Zb)(s:Zj)(op:Ze)(c:Ze)(J:Zl)(N:Zb)
 (eg:∀args W,(callFunc fn args).run prog W=.ok (.enter fn args) W) (hc:0<c) (hlaw:Gz s c step T) (hInv:∀st j j' w w',Inv st j w->j<=j'->ab b w w'->Inv st j' w') (Wk:Zh->Prop) (hWk:∀w w',Wk w->ab b w w'->Wk w') (hIW:∀st j w,Inv st j w->Wk w)
 (hthing:∀st j lg w,Inv st j w->N<=w.heap.size->PS w b s j op lg J->dS w->ak s j=j->j<=s.size->Zo prog fn cap w λe w'=>∃er k' lg',e=.returned er/\bh N b w w'/\PS w' b s k' op lg' J/\Wk w'/\XX (pO s J (step st j lg) er j k' lg' (λst'=>Inv st' k' w')))
 (k:Zb) (lg:Zf) (w:Zh) (st:σ) (hp:PS w b s k op lg J) (hE:dS w) (hG:15<=b) (bT:b<N) (hN:N<=w.heap.size) (hs:s.size<=1000) (hk:k<=s.size) (fe:1<=k) (eo:Inv st k w):
 Zo prog 103 #[.pointer (O ⟨b,0,Za⟩),.int .u8 c,.func (.func fn) #[] cap] w λe w'=>∃er k' lg',e=.returned er/\bh N b w w'/\PS w' b s k' op lg' J/\Wk w'/\XX (pO s J (T (s.size+1) Zi (ak s k) lg st) er k k' lg' (λst'=>Inv st' k' w')):=by
 have HP:XX (PS w b s k op lg J):=hp;have HE:XX (dS w):=hE;have Dq:XX (Gz s c step T):=hlaw;have yo:XX (∀st j j' w w',Inv st j w->j<=j'->ab b w w'->Inv st j' w'):=hInv;have J6:XX (∀st j lg w,Inv st j w->N<=w.heap.size->PS w b s j op lg J->dS w->ak s j=j->j<=s.size->Zo prog fn cap w λe w'=>∃er k' lg',e=.returned er/\bh N b w w'/\PS w' b s k' op lg' J/\Wk w'/\XX (pO s J (step st j lg) er j k' lg' (λst'=>Inv st' k' w'))):=hthing;have sC:XX (Inv st k w):=eo;have yE:XX (∀w w',Wk w->ab b w w'->Wk w'):=hWk;have OI:XX (∀st j w,Inv st j w->Wk w):=hIW;clear hWk hIW;obtain⟨R,hR⟩:∃R,R=T (s.size+1) Zi (ak s k) lg st:=⟨_,rfl⟩
 have HR:XX (T (s.size+1) Zi (ak s k) lg st=R):=hR.symm;rw[<-hR];have eQ:=iH s k hk;have Mn:=fJ s k;obtain⟨k0,LY⟩:∃k0,k0=ak s k:=⟨_,rfl⟩
 have oq:XX (k0=ak s k):=LY;rw[<-LY]at eQ Mn;clear hp hE hlaw hInv hthing eo hR LY;go_enter func103,ntmps103;go_wp2_with fail;refine(xM b s k op lg _ HP.o hk hs).mono ?_;rintro e w1 ⟨rfl,ae,aC⟩;rw[<-oq.o]at aC;have aU:XX (Inv st k0 w1):=yo.o _ _ _ _ _ sC.o Mn ae;have aX:XX (PS w1 b s k0 op lg J):=aC;clear aC;by_cases dx:pk s k0=c
 .have HC:XX (pk s k0=c):=dx;have hg:gb s k0=c:=(iT hc).1 dx;have ai:=cC (s:=s) (k:=k0) (by omega);have HF:XX (R=.ok (st,k0+1,lg)):=by show _=_;rw[<-HR.o,<-oq.o];exact Dq.o.fin _ _ _ _ _ hg
  clear dx hg;go_wp2_with fail;refine(pu b s k0 op lg c _ aX.o eQ hs HC.o).mono ?_;rintro e w2 ⟨rfl,ah,bb⟩;go_wp2_with fail;go_ret;refine⟨.nilIface,k0+1,lg,rfl,bh.of_but (ae.trans ah) hN,bb,yE.o _ _ (OI.o _ _ _ aU.o) ah,?_⟩;show pO _ _ _ _ _ _ _ _;rw[HF.o];exact⟨rfl,rfl,rfl,yo.o _ _ _ _ _ aU.o (by omega) ah,by omega,ai⟩
 .have HC:XX (pk s k0≠c):=dx;have HG:XX (gb s k0≠c):=λh=>dx ((iT hc).2 h)
  clear dx;go_wp2_with fail;refine(iW b s k0 op lg c _ aX.o eQ hs HC.o).mono ?_;rintro e w2 ⟨rfl,ah,bb⟩;have Rl:bh N b w w2:=bh.of_but (ae.trans ah) hN;have gd:XX (PS w2 b s k0 op lg J):=bb;have dL:XX (Inv st k0 w2):=yo.o _ _ _ _ _ aU.o (Zp _) ah;clear bb ae ah aX aU;go_wp2_with fail;go_loopg [] (s.size+1) (λg wr=>bh N b w wr/\∃fst j0 j lgj stj,gb s j0≠c/\(fst=Zi\/gb s j0=44)/\j=ak s (if fst then j0 else j0+1)/\j<=s.size/\k<=j/\(if fst then s.size+1 else s.size)<j0+g/\T g fst j0 lgj stj=R/\PS wr b s j op lgj J/\Inv stj j wr)
  case atStart=>exact⟨Rl,Zi,k0,k0,lg,st,HG.o,.inl rfl,by rw[Zg rfl,oq.o,CK],eQ,Mn,by rw[Zg rfl];omega,by rw[oq.o];exact HR.o,gd.o,dL.o⟩
  case round=>
   obtain⟨ba,fst,j0,j,lgj,stj,q1,q2,q3,hj,L0,jM,hT,nz,mN⟩:=hrel;have xw:j0<=j/\(fst=Zc->j0+1<=j):=by
    cases fst
    .rw[q3];have:=fJ s (j0+1);simp;omega
    .rw[q3];have:=fJ s j0;simp;omega
   have yp:XX (j0<=j/\(fst=Zc->j0+1<=j)):=xw;have mL:0<gk:=by
    rcases Zb.eq_zero_or_pos gk with h|h
    .subst h;split at jM <;> omega
    .exact h
   obtain⟨f,rfl⟩:∃f,gk=f+1:=⟨gk-1,by omega⟩
   have yq:XX ((if fst then s.size+1 else s.size)<j0+(f+1)):=jM;have H1:XX (gb s j0≠c):=q1;have H2:XX (fst=Zi\/gb s j0=44):=q2;have H3:XX (j=ak s (if fst then j0 else j0+1)):=q3;have HT:XX (T (f+1) fst j0 lgj stj=R):=hT;have HPj:XX (PS wr b s j op lgj J):=nz;have WL:XX (Inv stj j wr):=mN;have HSj:XX (ak s j=j):=by show _=_;rw[q3,CK]
   have afc:N<=wr.heap.size:=Zx hN ba.size;have WA:XX (dS wr):=ace HE.o ba hG (by omega);clear xw mL jM q1 q2 q3 hT nz mN Rl dL gd HP HG HC sC;go_wp2_with fail;refine(J6.o stj j lgj wr WL.o afc HPj.o WA.o HSj.o hj).mono ?_;rintro e w3 ⟨er,k3,lg3,rfl,dr,bk,SN,Sv⟩;have Pd:=gp SN;clear SN;have Fc:=Sv.o;have ge:XX (PS w3 b s k3 op lg3 J):=bk;have iP:bh N b w w3:=ba.trans dr;have eC:N<=w3.heap.size:=Zx hN iP.size;clear Sv bk ba dr;cases hS:step stj j lgj with
   |error p=>
    rw[hS]at Fc;have EP:er=aG J p:=Fc;subst EP;have HF:XX (R=.error p):=by show _=_;rw[<-HT.o];exact Dq.o.err _ _ _ _ _ _ H1.o H2.o (by rw[<-H3.o];exact hS)
    clear hS Fc;rw[aG];go_wp2_with fail;go_ret;refine⟨aG J p,k3,lg3,rfl,iP,ge.o,Pd.o,?_⟩;show pO _ _ _ _ _ _ _ _;rw[HF.o];rfl
   |ok r=>
    rw[hS]at Fc;obtain⟨EP,h31,iA,QJ,gV,Hc⟩:=Fc;subst EP;have HN:XX (T f Zc (ak s r.2.1) r.2.2 r.1=R):=by show _=_;rw[<-HT.o];exact(Dq.o.next _ _ _ _ _ _ H1.o H2.o (by rw[<-H3.o];exact hS)).symm
    subst h31;subst iA;have wM:XX (Inv r.1 r.2.1 w3):=QJ;obtain⟨k4,oY⟩:∃k4,k4=ak s r.2.1:=⟨_,rfl⟩
    have RU:=fJ s r.2.1;have EW:=iH s r.2.1 Hc;rw[<-oY]at RU EW;have jv:XX (k4=ak s r.2.1):=oY;clear hS QJ oY;go_wp2_with fail;refine(xM b s _ op _ _ ge.o Hc hs).mono ?_;rintro e w4 ⟨rfl,aB,bg⟩;rw[<-jv.o]at bg;have AM:XX (PS w4 b s k4 op r.2.2 J):=bg;have JM:XX (Inv r.1 k4 w4):=yo.o _ _ _ _ _ wM.o RU aB;clear bg;have K9:=yq.o;have hj4:s.size<k4+f:=by
     have h:=yp.o;cases fst
     .have:=h.2 rfl;simp at K9;omega
     .simp at K9;omega
    clear K9;by_cases dx:pk s k4=c
    .have HC:XX (pk s k4=c):=dx;have hg:gb s k4=c:=(iT hc).1 dx;have ai:=cC (s:=s) (k:=k4) (by omega);obtain⟨f',rfl⟩:∃f',f=f'+1:=⟨f-1,by omega⟩
     have HF:XX (R=.ok (r.1,k4+1,r.2.2)):=by show _=_;rw[<-HN.o,<-jv.o];exact Dq.o.fin _ _ _ _ _ hg
     clear dx hg;go_wp2_with fail;refine(pu b s k4 op _ c _ AM.o EW hs HC.o).mono ?_;rintro e w5 ⟨rfl,bP,dB⟩;go_wp2_with fail;go_ret;refine⟨.nilIface,k4+1,r.2.2,rfl,iP.trans (bh.of_but (aB.trans bP) eC),dB,yE.o _ _ Pd.o (aB.trans bP),?_⟩;show pO _ _ _ _ _ _ _ _;rw[HF.o];exact⟨rfl,rfl,rfl,yo.o _ _ _ _ _ JM.o (by omega) bP,by omega,ai⟩
    .have HC:XX (pk s k4≠c):=dx;have OE:XX (gb s k4≠c):=λh=>dx ((iT hc).2 h)
     clear dx;go_wp2_with fail;refine(iW b s k4 op _ c _ AM.o EW hs HC.o).mono ?_;rintro e w5 ⟨rfl,bP,dB⟩;have qo:XX (PS w5 b s k4 op r.2.2 J):=dB;have OG:XX (Inv r.1 k4 w5):=yo.o _ _ _ _ _ JM.o (Zp _) bP;have pX:bh N b w w5:=iP.trans (bh.of_but (aB.trans bP) eC);clear dB aB bP AM JM;by_cases h44:pk s k4=44
     .have JE:XX (pk s k4=44):=h44;have hg:gb s k4=44:=(iT (by omega)).1 h44;have WE:XX (gb s k4=44):=hg;have ai:=cC (s:=s) (k:=k4) (by omega);clear h44 hg;go_wp2_with fail;refine(pu b s k4 op _ 44 _ qo.o EW hs JE.o).mono ?_;rintro e w6 ⟨rfl,jB,qM⟩;go_wp2_with fail;refine(xM b s _ op _ _ qM ai hs).mono ?_;rintro e w7 ⟨rfl,iO,pb⟩;go_wp2_with fail;have h7a:=fJ s (k4+1);have h7b:=iH s (k4+1) ai;go_roundg f
      case measure=>omega
      case rel=>
       refine⟨pX.trans (bh.of_but (jB.trans iO) (Zx hN pX.size)),Zc,k4,ak s (k4+1),r.2.2,r.1,OE.o,.inr WE.o,by simp,h7b,by omega,by simp;omega,by rw[jv.o];exact HN.o,pb,yo.o _ _ _ _ _ OG.o (by omega) (jB.trans iO)⟩
     .have JE:XX (pk s k4≠44):=h44;obtain⟨f',rfl⟩:∃f',f=f'+1:=⟨f-1,by omega⟩
      have HF:XX (R=.error k4):=by show _=_;rw[<-HN.o,<-jv.o];exact Dq.o.bad _ _ _ _ OE.o (λh=>h44 ((iT (by omega)).2 h))
      clear h44;go_wp2_with fail;refine(iW b s k4 op _ 44 _ qo.o EW hs JE.o).mono ?_;rintro e w6 ⟨rfl,jB,qM⟩;go_wp2_with fail;refine(pC b s k4 op _ _ qM).mono ?_;rintro e w7 ⟨rfl,n7,rfl⟩;rw[aG];go_wp2_with fail;go_ret;refine⟨aG J k4,k4,r.2.2,rfl,pX.trans (bh.of_but (jB.drewN _) (Zx hN pX.size)),qM.drewN _,yE.o _ _ (OI.o _ _ _ OG.o) (jB.drewN _),?_⟩;show pO _ _ _ _ _ _ _ _;rw[HF.o];rfl
def l5(n:Zb)(J:Zl)(R:Zr Zb (VT n×Zb×Zf))(w':Zh)(M:Zb)(x er:Zk)(k':Zb)(lg':Zf):Prop:=
 match R with
 |.error p=>er=aG J p
 |.ok r=>er=.nilIface/\k'=r.2.1/\lg'=r.2.2/\db n w' (λm=>M<=m) r.1 x
def vc(n:Zb):Prop:=
 ∀(b:Zb) (s:Zj) (k:Zb) (op:Ze) (lg:Zf) (w:Zh) (J:Zl),op+(n:Ze)=12->0<=op->PS w b s k op lg J->dS w->15<=b->s.size<=1000->k<=s.size->ak s k=k ->
  Zo prog 18 #[.pointer (O ⟨b,0,Za⟩)] w λe w'=>∃x er k' lg',e=.returned (.tuple #[x,er])/\eI x/\ab b w w'/\PS w' b s k' op lg' J/\XX (l5 n J (fu n s k lg) w' w.heap.size x er k' lg')
theorem afx:(prog.info? 27).map (λi=>(i.zero,i.size,i.bytes))=O (O .nilIface,1,16):=by kernel_rfl
def wV(n N b:Zb)(vs:Zm (VT n))(j:Zb)(w:Zh):Prop:=
 w.heap[N]?=O (.cells #[.pointer (O ⟨b,0,Za⟩)] 71 (0,0))/\vs.length<=j /\
 ∃sl xs,w.heap[N+1]?=O (.cells #[sl] 101 (0,0))/\ao w 27 sl xs/\(∀g,sl.ownBlock=O g->N+1<g)/\bO (db n w (λm=>N+1<m/\sl.ownBlock≠O m)) vs xs
theorem wV.but{vs:Zm (VT n)}(h:wV n N b vs j w)(hj:j<=j')(hb:ab b w w')(bT:b<N):wV n N b vs j' w':=by
 obtain⟨h1,h2,sl,xs,h3,h4,h5,h6⟩:=h;refine⟨(hb.block N (al h1) (by intro e;injection e;omega)).trans h1,by omega,sl,xs,(hb.block _ (al h3) (by intro e;injection e;omega)).trans h3,h4.same (λg hg=>hb.block g (h4.lt hg) (by intro e;injection e;have:=h5 g hg;omega)),h5,DS h6 (λk hk ai=>⟨hb.block k ai (by intro e;injection e;omega),hk⟩)⟩
def DN(N:Zb)(w:Zh):Prop:=∃sl,w.heap[N+1]?=O (.cells #[sl] 101 (0,0))
theorem DN.but(h:DN N w)(hb:ab b w w')(bT:b<N):DN N w':=by
 obtain⟨sl,h⟩:=h;exact⟨sl,(hb.block _ (al h) (by intro e;injection e;omega)).trans h⟩
theorem af2(n:Zb)(hval:vc n)(b:Zb)(s:Zj)(op:Ze)(J:Zl)(N:Zb)(fF:op+(n:Ze)=12)(rL:0<=op)(hG:15<=b)(bT:b<N)(hs:s.size<=1000)
 (st:Zm (VT n)) (j:Zb) (lg:Zf) (w:Zh) (mN:wV n N b st j w) (hN:N<=w.heap.size) (hp:PS w b s j op lg J) (hE:dS w) (eQ:ak s j=j) (hj:j<=s.size):
 Zo prog 107 #[.pointer (O ⟨N,0,Za⟩),.pointer (O ⟨N+1,0,Za⟩)] w λe w'=>∃er k' lg',e=.returned er/\bh N b w w'/\PS w' b s k' op lg' J/\DN N w'/\XX (pO s J (Cn n s st j lg) er j k' lg' (λst'=>wV n N b st' k' w')):=by
 have HV:=hval b s j op lg w J fF rL hp hE hG hs hj eQ;have O8:=gp HV;obtain⟨h1,h2,sl,xs,h3,h4,h5,h6⟩:=mN;have c1:w.cell? ⟨N,0,Za⟩=O (.pointer (O ⟨b,0,Za⟩)):=by simp[Zn,h1]
 have rq:N+1<w.heap.size:=al h3;have jN:xs.length<=1000:=by rw[<-h6.length];omega
 have H1:XX (w.heap[N]?=O (.cells #[.pointer (O ⟨b,0,Za⟩)] 71 (0,0))):=h1;have H2:XX (st.length<=j):=h2;have H3:XX (w.heap[N+1]?=O (.cells #[sl] 101 (0,0))):=h3;have H4:XX (ao w 27 sl xs):=h4;have H5:XX (∀g,sl.ownBlock=O g->N+1<g):=h5;have H6:XX (bO (db n w (λm=>N+1<m/\sl.ownBlock≠O m)) st xs):=h6;clear HV h1 h2 h3 h4 h5 h6 hp hE eQ hval;go_enter func107,ntmps107;go_wp2_with fail;refine O8.o.mono ?_;rintro e w1 ⟨x,er,k1,lg1,rfl,gX,ae,aC,dD⟩;have g1:w1.heap[N]?=O (.cells #[.pointer (O ⟨b,0,Za⟩)] 71 (0,0)):=(ae.block N (by omega) (by intro e;injection e;omega)).trans H1.o;have g3:w1.heap[N+1]?=O (.cells #[sl] 101 (0,0)):=(ae.block (N+1) rq (by intro e;injection e;omega)).trans H3.o;have g4:ao w1 27 sl xs:=H4.o.same (λg hg=>ae.block g (H4.o.lt hg) (by intro e;injection e;have:=H5.o g hg;omega));have g6:bO (db n w1 (λm=>N+1<m/\sl.ownBlock≠O m)) st xs:=DS H6.o (λk hk ai=>⟨ae.block k ai (by intro e;injection e;omega),hk⟩);have c3:w1.cell? ⟨N+1,0,Za⟩=O sl:=by simp[Zn,g3]
 have io:=ae.size;have aX:XX (PS w1 b s k1 op lg1 J):=aC;have G1:XX (w1.heap[N]?=O (.cells #[.pointer (O ⟨b,0,Za⟩)] 71 (0,0))):=g1;have G3:XX (w1.heap[N+1]?=O (.cells #[sl] 101 (0,0))):=g3;have G4:XX (ao w1 27 sl xs):=g4;have G6:XX (bO (db n w1 (λm=>N+1<m/\sl.ownBlock≠O m)) st xs):=g6;have Mo:XX (∀g,sl.ownBlock=O g->g<w.heap.size):=λg hg=>H4.o.lt hg
 clear H1 H3 H4 H6 O8 g1 g3 g4 g6 aC c1;obtain⟨X,hX⟩:∃X,X=x:=⟨_,rfl⟩
 have HX:XX (X=x):=hX;have pW:X.oneCell'=Zi:=by rw[hX];exact gX.one
 rw[<-hX]at dD;clear hX;rcases gX with rfl|⟨tx,vx,rfl⟩
 all_goals
  go_wp2_with (at_builtin;refine pP rfl (.tmp 10) (.tmp 12) 101 27 rfl .nilIface 16 afx rfl underlying101 (by decide) sl xs rfl ?h1 _ _ X rfl ?h2 pW ?h3 _ rfl ?_)
  case h1=>exact ZE G4.o _
  case h2=>rw[HX.o];exact my rfl
  case h3=>omega
  intro g cap w2 ph an cQ ai;have jz:w2.heap[N+1]?=O (.cells #[sl] 101 (0,0)):=by
   rw[an.block (N+1) (by simp;omega) (by intro e;have:=H5.o _ e.symm;omega)];exact cj G3.o
  have Em:w2.heap[N]?=O (.cells #[.pointer (O ⟨b,0,Za⟩)] 71 (0,0)):=by
   rw[an.block N (by simp;omega) (by intro e;have:=H5.o _ e.symm;omega)];exact cj G1.o
  have cN:w2.cell? ⟨N+1,0,Za⟩=O sl:=by simp[Zn,jz]
  have fN:w2.frozen? ⟨N+1,0,Za⟩=Zc:=by simp[ZC,jz]
  have hgN:N+1<g:=by
   rcases cQ with h|h
   .exact H5.o g h
   .have h':g=w1.heap.size+1:=h;omega
  have uS:=gp an;have dT:=gp ph;have pE:=gp cQ;have so:=gp jz;have JU:=gp Em;clear an ph cQ jz Em c3;go_wp2_with fail;go_ret;have Ij:w1.heap.size+1<=w2.heap.size:=by have:=uS.o.size;simpa using this
  have vM:∀i,i<w1.heap.size->i≠N+1->sl.ownBlock≠O i->(w2.setCell ⟨N+1,0,Za⟩ (.slice (O ⟨g,0,Za⟩) (xs.length+1) cap)).heap[i]?=w1.heap[i]?:=by
   intro i hi bj km;rw[Zw _ _ _ _ (by simpa using bj),uS.o.block i (by simp;omega) (λe=>km e.symm),Zt.heap_alloc _ _ _ hi]
  refine⟨er,k1,lg1,rfl,?_,?_,⟨_,cY so.o _⟩,?_⟩
  .have h1:bh N b w w1:=bh.of_but ae hN;refine h1.trans ⟨?_,?_,?_,?_,?_⟩
   .exact uS.o.os
   .exact uS.o.tape
   .exact uS.o.output
   .simp[ZD];omega
   .intro i hi bj;exact vM i (by omega) (by omega) (λe=>by have:=H5.o i e;omega)
  .have ed:=al aX.o.1;have LX:=al aX.o.2.1;have hJN:5<N:=by omega
   exact⟨(vM b ed (by omega) (λe=>by have:=H5.o b e;omega)).trans aX.o.1,(vM _ LX (by omega) (λe=>by have:=H5.o _ e;omega)).trans aX.o.2.1,aX.o.2.2⟩
  .show pO _ _ _ _ _ _ _ _;have vR:=dD.o;rw[Cn];cases dj:fu n s j lg with
   |error p=>rw[dj]at vR;exact vR
   |ok r=>
    rw[dj]at vR;obtain⟨r1,r2,r3,r4⟩:=vR;have be:=Fk s hs n j lg r.1 r.2.1 r.2.2 hj (Ns dj);refine⟨r1,r2,r3,?_,by omega,by omega⟩;refine⟨(Zw _ _ _ _ (by show N≠N+1;omega)).trans JU.o,by have:=H2.o;rw[Zm.length_append,Zm.length_singleton];omega,.slice (O ⟨g,0,Za⟩) (xs.length+1) cap,xs++[X],cY so.o _,?_,?_,?_⟩
    .exact ao.same dT.o (λi hi=>Zw _ _ _ _ (by simp[Zz]at hi;show i≠N+1;omega))
    .intro i hi;simp[Zz]at hi;omega
    .have key:∀i,N+1<i/\sl.ownBlock≠O i->i<w1.heap.size->(w2.setCell ⟨N+1,0,Za⟩ (.slice (O ⟨g,0,Za⟩) (xs.length+1) cap)).heap[i]?=w1.heap[i]?/\(N+1<i/\(Zk.slice (O ⟨g,0,Za⟩) (xs.length+1) cap).ownBlock≠O i):=by
      intro i hi ai;refine⟨vM i ai (by omega) hi.2,hi.1,?_⟩;intro e;simp[Zz]at e;subst e;rcases pE.o with h|h
      .exact hi.2 h
      .have h':g=w1.heap.size+1:=h;omega
     refine bO.snoc (db.keep n r4 ?_) (DS G6.o key);intro i hi ai;exact key i ⟨by omega,λe=>by have:=Mo.o i e;omega⟩ ai
theorem abU:∀args W,(callFunc 107 args).run prog W=.ok (.enter 107 args) W:=enters_of func107 (by kernel_rfl) rfl
theorem ahn(n:Zb)(hval:vc n)(b:Zb)(s:Zj)(k:Zb)(op:Ze)(lg:Zf)(w:Zh)(J:Zl)(fF:op+(n:Ze)=12)(rL:0<=op)(hp:PS w b s k op lg J)(hE:dS w)(hG:15<=b)(hs:s.size<=1000)(hk:k<=s.size)(fe:1<=k):
 Zo prog 68 #[.pointer (O ⟨b,0,Za⟩)] w λe w'=>∃x er k' lg',e=.returned (.tuple #[x,er])/\eI x/\ab b w w'/\PS w' b s k' op lg' J /\
  XX (l5 (n+1) J ((gH (fu n s) s (s.size+1) Zi (ak s k) lg []).map λr=>(VT.list r.1,r.2)) w' w.heap.size x er k' lg'):=by
 have ed:=al hp.1;obtain⟨N,hN⟩:∃N,N=w.heap.size:=⟨_,rfl⟩
 have HN:XX (N=w.heap.size):=hN;have bT:b<N:=by omega
 obtain⟨W,hW⟩:∃W,W=(w.alloc (.cells #[.pointer (O ⟨b,0,Za⟩)] 71)).alloc (.cells #[.slice Za 0 0] 101):=⟨_,rfl⟩
 have pU:ab b w W:=by rw[hW];exact((ab.refl b w).alloc _).alloc _
 have xz:PS W b s k op lg J:=by rw[hW];exact(hp.alloc _).alloc _
 have Ei:dS W:=hE.but pU hG;have eB:wV n N b [] k W:=by
  subst hW;refine⟨?_,Zy _,.slice Za 0 0,[],?_,ao.nil _ _,λg hg=>by simp[Zz]at hg,trivial⟩
  .exact cj (aE hN.symm)
  .exact aE (by simp;omega)
 have aO:=Uv 107 #[.pointer (O ⟨N,0,Za⟩),.pointer (O ⟨N+1,0,Za⟩)] (wV n N b) (Cn n s) (gH (fu n s) s) b s op 93 J N abU (by omega) (af3 n s) (λst j j' w w' h hj hb=>wV.but h hj hb bT) (DN N) (λw w' h hb=>h.but hb bT) (λst j w h=>by obtain⟨_,_,sl,_,h3,_⟩:=h;exact⟨sl,h3⟩)
  (λst j lg w h1 h2 h3 h4 h5 h6=>af2 n hval b s op J N fF rL hG bT hs st j lg w h1 h2 h3 h4 h5 h6) k lg W [] xz Ei hG bT (by rw[hW];simp;omega) hs hk fe eB
 have dT:=gp aO;have bB:XX (ab b w W):=pU;have c1:(w.alloc (.cells #[.pointer (O ⟨b,0,Za⟩)] 71)).cell? ⟨w.heap.size,0,Za⟩=O (.pointer (O ⟨b,0,Za⟩)):=by
  have:=my (W:=w) (n:=w.heap.size) (x:=.pointer (O ⟨b,0,Za⟩)) (t:=71) rfl;rw[ZB]at this;exact this
 have Kb:XX (W=(w.alloc (.cells #[.pointer (O ⟨b,0,Za⟩)] 71)).alloc (.cells #[.slice Za 0 0] 101)):=hW;have cW:((w.alloc (.cells #[.pointer (O ⟨b,0,Za⟩)] 71)).alloc (.cells #[.slice Za 0 0] 101)).cell? ⟨w.heap.size,0,Za⟩=O (.pointer (O ⟨b,0,Za⟩)):=by
  rw[<-hW];have:=eB.1;rw[hN]at this;simp[Zn,this]
 clear aO pU xz Ei eB hp hE hval hW hN;go_enter func68,ntmps68;go_wp2_with fail;have Lc:=HN.o;subst Lc;have Bu:=Kb.o;subst Bu;refine dT.o.mono ?_;rintro e w1 ⟨er,k1,lg1,rfl,je,aC,⟨sl,km⟩,eo⟩;have csl:w1.cell? ⟨w.heap.size+1,0,Za⟩=O sl:=by simp[Zn,km]
 have rb:=gp km;clear km;go_wp2_with fail;go_ret2;have ar:ab b w w1:=bh.but ((bh.of_but bB.o (Zp _)).trans je);refine⟨_,er,k1,lg1,rfl,.inr ⟨_,_,rfl⟩,ar,aC,?_⟩;show l5 _ _ _ _ _ _ _ _ _;have td:=eo.o;unfold pO at td;unfold l5;cases hL:gH (fu n s) s (s.size+1) Zi (ak s k) lg []with
 |error p=>rw[hL]at td;exact td
 |ok r=>
  rw[hL]at td;obtain⟨q1,q2,q3,⟨_,_,sl',xs,q4,q5,q6,q7⟩,_⟩:=td;have Ml:sl'=sl:=by
   have h:=rb.o;rw[q4]at h;injection h with h;injection h with h;have:=Zv (λa:Zq Zk=>a[0]?) h;simpa using this
  subst Ml;exact⟨q1,q2,q3,sl',xs,rfl,q5,λg hg=>by have:=q6 g hg;omega,q7.mono (λa c eA=>db.keep n eA (λi hi _=>⟨rfl,by omega⟩))⟩
theorem afY(hk:k<=s.size)(h:¬0<=(j6 s k).2.2):k<=(j6 s k).2.1/\(j6 s k).2.1<=s.size/\ak s (j6 s k).2.1=(j6 s k).2.1:=by
 rw[j6]at h⊢;by_cases h1:gb s k≠34
 .rw[Zg h1]at h;simp only at h;omega
 .rw[Zd h1]at h⊢;by_cases h2:0<=(aw s k).2.2
  .rw[Zg h2]at h;exact absurd h2 h
  .rw[Zd h2]at h⊢;by_cases h3:gb s (ak s (aw s k).2.1)≠58
   .rw[Zg h3]at h;simp only at h;omega
   .rw[Zd h3];have r1:=(N5 (s:=s) (k:=k) (by omega)).2;have r3:=fJ s (aw s k).2.1;have r4:=cC (s:=s) (k:=ak s (aw s k).2.1) (by omega);have r5:=fJ s (ak s (aw s k).2.1+1);exact⟨by simp only;omega,iH s _ r4,CK s _⟩
def qx(n N b:Zb)(st:Zm Zj×Zm (VT n))(j:Zb)(w:Zh):Prop:=
 w.heap[N]?=O (.cells #[.pointer (O ⟨b,0,Za⟩)] 71 (0,0))/\st.2.length<=j /\
 ∃sl xs,w.heap[N+1]?=O (.cells #[sl] 104 (0,0))/\fM w sl st.1 xs/\(∀g,sl.ownBlock=O g->N+1<g)/\bO (db n w (λm=>N+1<m/\sl.ownBlock≠O m)) st.2 xs
theorem qx.but{st:Zm Zj×Zm (VT n)}(h:qx n N b st j w)(hj:j<=j')(hb:ab b w w')(bT:b<N):qx n N b st j' w':=by
 obtain⟨h1,h2,sl,xs,h3,h4,h5,h6⟩:=h;refine⟨(hb.block N (al h1) (by intro e;injection e;omega)).trans h1,by omega,sl,xs,(hb.block _ (al h3) (by intro e;injection e;omega)).trans h3,h4.same (λg hg=>hb.block g (h4.lt hg) (by intro e;injection e;have:=h5 g hg;omega)),h5,DS h6 (λk hk ai=>⟨hb.block k ai (by intro e;injection e;omega),hk⟩)⟩
def AZ(N:Zb)(w:Zh):Prop:=∃sl,w.heap[N+1]?=O (.cells #[sl] 104 (0,0))
theorem AZ.but(h:AZ N w)(hb:ab b w w')(bT:b<N):AZ N w':=by
 obtain⟨sl,h⟩:=h;exact⟨sl,(hb.block _ (al h) (by intro e;injection e;omega)).trans h⟩
theorem qx.var{st:Zm Zj×Zm (VT n)}(h:qx n N b st j w):AZ N w:=by
 obtain⟨_,_,sl,_,h3,_⟩:=h;exact⟨sl,h3⟩
theorem agI(n:Zb)(hval:vc n)(b:Zb)(s:Zj)(op:Ze)(J:Zl)(N:Zb)(fF:op+(n:Ze)=12)(rL:0<=op)(hG:15<=b)(bT:b<N)(hs:s.size<=1000)
 (st:Zm Zj×Zm (VT n)) (j:Zb) (lg:Zf) (w:Zh) (mN:qx n N b st j w) (hN:N<=w.heap.size) (hp:PS w b s j op lg J) (hE:dS w) (eQ:ak s j=j) (hj:j<=s.size):
 Zo prog 104 #[.pointer (O ⟨N,0,Za⟩),.pointer (O ⟨N+1,0,Za⟩)] w λe w'=>∃er k' lg',e=.returned er/\bh N b w w'/\PS w' b s k' op lg' J/\AZ N w'/\XX (pO s J (xJ n s st j lg) er j k' lg' (λst'=>qx n N b st' k' w')):=by
 have HV:XX (vc n):=hval;have HI:XX (qx n N b st j w):=mN;have hi:=mN;obtain⟨h1,h2,sl0,xs0,h3,_⟩:=hi;have c1:w.cell? ⟨N,0,Za⟩=O (.pointer (O ⟨b,0,Za⟩)):=by simp[Zn,h1]
 have rq:N+1<w.heap.size:=al h3;have HP:XX (PS w b s j op lg J):=hp;have HE:XX (dS w):=hE;obtain⟨key,kk,kb,hK⟩:∃key kk kb,j6 s j=(key,kk,kb):=⟨_,_,_,rfl⟩
 have sV:=afZ b s j op lg w hp hE.1 hG hj hs;rw[hK]at sV;have OJ:=gp sV;have HK:XX (j6 s j=(key,kk,kb)):=hK;have WN:XX (¬0<=kb->j<=kk/\kk<=s.size/\ak s kk=kk):=λh=>by have:=afY (s:=s) (k:=j) hj (by rw[hK];exact h);rw[hK]at this;exact this
 clear sV hK hp hE mN h1 h2 h3 hval eQ;by_cases hkb:0<=kb
 .have HF:XX (xJ n s st j lg=.error kk):=by show _=_;rw[xJ,HK.o];simp only;rw[Zg hkb]
  go_enter func104,ntmps104;go_wp2_with fail;refine OJ.o.mono ?_;rintro e w1 ⟨rfl,ae,aC⟩;rw[fK,Zd (by simp only;omega),aG];go_wp2_with fail;go_ret;refine⟨aG J kk,kk,lg,rfl,bh.of_but ae hN,aC,HI.o.var.but ae bT,?_⟩;show pO _ _ _ _ _ _ _ _;rw[HF.o];rfl
 .obtain⟨dh,ek,rE⟩:=WN.o hkb;have tH:XX (ak s kk=kk):=rE;clear rE;go_enter func104,ntmps104;go_wp2_with fail;refine OJ.o.mono ?_;rintro e w1 ⟨rfl,ae,aC⟩;rw[fK,Zg (by simp only;omega)];have pG:XX (qx n N b st j w1):=HI.o.but (Zp _) ae bT;have c1':w1.cell? ⟨N,0,Za⟩=O (.pointer (O ⟨b,0,Za⟩)):=by simp[Zn,pG.o.1]
  have qT:XX (dS w1):=HE.o.but ae hG;have aX:XX (PS w1 b s kk op lg J):=aC;have io:=ae.size;clear c1 aC;go_wp2_with fail;refine(HV.o b s kk op lg w1 J fF rL aX.o qT.o hG hs ek tH.o).mono ?_;rintro e w2 ⟨x,er,k2,lg2,rfl,lP,ah,bb,dD⟩;have dL:qx n N b st j w2:=pG.o.but (Zp _) ah bT;obtain⟨g1,g2,sl,xs,g3,g4,g5,g6⟩:=dL;have c3:w2.cell? ⟨N+1,0,Za⟩=O sl:=by simp[Zn,g3]
  have Ij:=ah.size;have gd:XX (PS w2 b s k2 op lg2 J):=bb;have G1:XX (w2.heap[N]?=O (.cells #[.pointer (O ⟨b,0,Za⟩)] 71 (0,0))):=g1;have G2:XX (st.2.length<=j):=g2;have G3:XX (w2.heap[N+1]?=O (.cells #[sl] 104 (0,0))):=g3;have G4:XX (fM w2 sl st.1 xs):=g4;have H5:XX (∀g,sl.ownBlock=O g->N+1<g):=g5;have G6:XX (bO (db n w2 (λm=>N+1<m/\sl.ownBlock≠O m)) st.2 xs):=g6;have Mo:XX (∀g,sl.ownBlock=O g->g<w1.heap.size):=by
   intro g hg;obtain⟨_,_,sl1,xs1,q3,q4,_⟩:=pG.o;have:sl1=sl:=by
    have h1:=(ah.block (N+1) (al q3) (by intro e;injection e;omega)).trans q3;rw[g3]at h1;injection h1 with h1;injection h1 with h1;have:=Zv (λa:Zq Zk=>a[0]?) h1;simpa using this.symm
   subst this;exact q4.lt hg
  have jN:xs.length<=2000:=by rw[<-g6.length];omega
  clear g1 g2 g3 g4 g5 g6 bb c1' HI pG;go_wp2_with fail;refine(ahH st.1 xs key x sl w2 G4.o lP jN).mono ?_;rintro e w3 ⟨sl',rfl,pa,EG,E4⟩;have eC:=EG.size;have jz:w3.heap[N+1]?=O (.cells #[sl] 104 (0,0)):=(EG.block (N+1) (by omega) (λe=>by have:=H5.o _ e;omega)).trans G3.o;have Em:w3.heap[N]?=O (.cells #[.pointer (O ⟨b,0,Za⟩)] 71 (0,0)):=(EG.block N (by omega) (λe=>by have:=H5.o _ e;omega)).trans G1.o;have cN:w3.cell? ⟨N+1,0,Za⟩=O sl:=by simp[Zn,jz]
  have fN:w3.frozen? ⟨N+1,0,Za⟩=Zc:=by simp[ZC,jz]
  have Gg:=gp pa;have lc:=gp EG;have JW:=gp E4;have so:=gp jz;have JU:=gp Em;obtain⟨o',n',c',nB⟩:∃o' n' c',sl'=.slice o' n' c':=by rcases pa.len with⟨h,_⟩|⟨_,_,h,_⟩ <;> exact⟨_,_,_,h⟩
  have HSH:=gp nB;rw[nB];clear pa EG E4 jz Em c3 nB;go_wp2_with fail;go_ret;rw[<-HSH.o];have vM:∀i,i<w2.heap.size->i≠N+1->sl.ownBlock≠O i->(w3.setCell ⟨N+1,0,Za⟩ sl').heap[i]?=w2.heap[i]?:=by
   intro i hi bj km;rw[Zw _ _ _ _ (by simpa using bj),lc.o.block i hi km]
  refine⟨er,k2,lg2,rfl,?_,?_,⟨_,cY so.o _⟩,?_⟩
  .have h1:bh N b w w2:=bh.of_but (ae.trans ah) hN;refine h1.trans ⟨?_,?_,?_,?_,?_⟩
   .exact lc.o.os
   .exact lc.o.tape
   .exact lc.o.output
   .simp[ZD];omega
   .intro i hi bj;exact vM i (by omega) (by omega) (λe=>by have:=H5.o i e;omega)
  .have ed:=al gd.o.1;have LX:=al gd.o.2.1;exact⟨(vM b ed (by omega) (λe=>by have:=H5.o b e;omega)).trans gd.o.1,(vM _ LX (by omega) (λe=>by have:=H5.o _ e;omega)).trans gd.o.2.1,gd.o.2.2⟩
  .show pO _ _ _ _ _ _ _ _;have vR:=dD.o;rw[xJ,HK.o];simp only;rw[Zd (by omega)];cases dj:fu n s kk lg with
   |error p=>rw[dj]at vR;exact vR
   |ok r=>
    rw[dj]at vR;obtain⟨r1,r2,r3,r4⟩:=vR;have be:=Fk s hs n kk lg r.1 r.2.1 r.2.2 ek (Ns dj);refine⟨r1,r2,r3,?_,by omega,by omega⟩;have em:=IR st.1 st.2 key r.1;refine⟨(Zw _ _ _ _ (by show N≠N+1;omega)).trans JU.o,by have:=G2.o;show(fB st.1 st.2 key r.1).length<=_;omega,sl',fB st.1 xs key x,cY so.o _,?_,?_,?_⟩
    .exact fM.same Gg.o (λi hi=>Zw _ _ _ _ (by
      show i≠N+1;rcases JW.o i hi with h|h
      .have:=H5.o i h;omega
      .omega))
    .intro i hi;rcases JW.o i hi with h|h
     .exact H5.o i h
     .omega
    .have key':∀i,N+1<i/\sl.ownBlock≠O i->i<w2.heap.size->(w3.setCell ⟨N+1,0,Za⟩ sl').heap[i]?=w2.heap[i]?/\(N+1<i/\sl'.ownBlock≠O i):=by
      intro i hi ai;refine⟨vM i ai (by omega) hi.2,hi.1,?_⟩;intro e;rcases JW.o i e with h|h
      .exact hi.2 h
      .omega
     refine bO.put (db.keep n r4 ?_) key ?_ (DS G6.o key')
     .intro i hi ai;exact key' i ⟨by omega,λe=>by have:=Mo.o i e;omega⟩ ai
     .rw[G4.o.1,G6.o.length]
theorem abX:∀args W,(callFunc 104 args).run prog W=.ok (.enter 104 args) W:=enters_of func104 (by kernel_rfl) rfl
theorem ahy(n:Zb)(hval:vc n)(b:Zb)(s:Zj)(k:Zb)(op:Ze)(lg:Zf)(w:Zh)(J:Zl)(fF:op+(n:Ze)=12)(rL:0<=op)(hp:PS w b s k op lg J)(hE:dS w)(hG:15<=b)(hs:s.size<=1000)(hk:k<=s.size)(fe:1<=k):
 Zo prog 67 #[.pointer (O ⟨b,0,Za⟩)] w λe w'=>∃x er k' lg',e=.returned (.tuple #[x,er])/\eI x/\ab b w w'/\PS w' b s k' op lg' J /\
  XX (l5 (n+1) J ((f8 (fu n s) s (s.size+1) Zi (ak s k) lg [] []).map λr=>(VT.obj r.1.1 r.1.2,r.2)) w' w.heap.size x er k' lg'):=by
 have ed:=al hp.1;obtain⟨N,hN⟩:∃N,N=w.heap.size:=⟨_,rfl⟩
 have HN:XX (N=w.heap.size):=hN;have bT:b<N:=by omega
 obtain⟨W,hW⟩:∃W,W=(w.alloc (.cells #[.pointer (O ⟨b,0,Za⟩)] 71)).alloc (.cells #[.slice Za 0 0] 104):=⟨_,rfl⟩
 have pU:ab b w W:=by rw[hW];exact((ab.refl b w).alloc _).alloc _
 have xz:PS W b s k op lg J:=by rw[hW];exact(hp.alloc _).alloc _
 have Ei:dS W:=hE.but pU hG;have eB:qx n N b ([],[]) k W:=by
  subst hW;refine⟨?_,Zy _,.slice Za 0 0,[],?_,fM.nil _,λg hg=>by simp[Zz]at hg,trivial⟩
  .exact cj (aE hN.symm)
  .exact aE (by simp;omega)
 have aO:=Uv 104 #[.pointer (O ⟨N,0,Za⟩),.pointer (O ⟨N+1,0,Za⟩)] (qx n N b) (xJ n s) (Cv n s) b s op 125 J N abX (by omega) (agJ n s) (λst j j' w w' h hj hb=>qx.but h hj hb bT) (AZ N) (λw w' h hb=>h.but hb bT) (λst j w h=>h.var)
  (λst j lg w h1 h2 h3 h4 h5 h6=>agI n hval b s op J N fF rL hG bT hs st j lg w h1 h2 h3 h4 h5 h6) k lg W ([],[]) xz Ei hG bT (by rw[hW];simp;omega) hs hk fe eB
 have dT:=gp aO;have bB:XX (ab b w W):=pU;have c1:(w.alloc (.cells #[.pointer (O ⟨b,0,Za⟩)] 71)).cell? ⟨w.heap.size,0,Za⟩=O (.pointer (O ⟨b,0,Za⟩)):=by
  have:=my (W:=w) (n:=w.heap.size) (x:=.pointer (O ⟨b,0,Za⟩)) (t:=71) rfl;rw[ZB]at this;exact this
 have Kb:XX (W=(w.alloc (.cells #[.pointer (O ⟨b,0,Za⟩)] 71)).alloc (.cells #[.slice Za 0 0] 104)):=hW;have cW:((w.alloc (.cells #[.pointer (O ⟨b,0,Za⟩)] 71)).alloc (.cells #[.slice Za 0 0] 104)).cell? ⟨w.heap.size,0,Za⟩=O (.pointer (O ⟨b,0,Za⟩)):=by
  rw[<-hW];have:=eB.1;rw[hN]at this;simp[Zn,this]
 clear aO pU xz Ei eB hp hE hval hW hN;go_enter func67,ntmps67;go_wp2_with fail;have Lc:=HN.o;subst Lc;have Bu:=Kb.o;subst Bu;refine dT.o.mono ?_;rintro e w1 ⟨er,k1,lg1,rfl,je,aC,⟨sl,km⟩,eo⟩;have csl:w1.cell? ⟨w.heap.size+1,0,Za⟩=O sl:=by simp[Zn,km]
 have rb:=gp km;clear km;go_wp2_with fail;go_ret2;have ar:ab b w w1:=bh.but ((bh.of_but bB.o (Zp _)).trans je);refine⟨_,er,k1,lg1,rfl,.inr ⟨_,_,rfl⟩,ar,aC,?_⟩;show l5 _ _ _ _ _ _ _ _ _;have td:=eo.o;unfold pO Cv at td;unfold l5;cases hL:f8 (fu n s) s (s.size+1) Zi (ak s k) lg [] []with
 |error p=>rw[hL]at td;exact td
 |ok r=>
  rw[hL]at td;obtain⟨q1,q2,q3,⟨_,_,sl',xs,q4,q5,q6,q7⟩,_⟩:=td;have Ml:sl'=sl:=by
   have h:=rb.o;rw[q4]at h;injection h with h;injection h with h;have:=Zv (λa:Zq Zk=>a[0]?) h;simpa using this
  subst Ml;exact⟨q1,q2,q3,sl',xs,rfl,q5,λg hg=>by have:=q6 g hg;omega,q7.mono (λa c eA=>db.keep n eA (λi hi _=>⟨rfl,by omega⟩))⟩
def rg(J:Zl)(R:Zr Zb (Lf×Zb×Zf))(x er:Zk)(k':Zb)(lg':Zf):Prop:=
 match R with
 |.error p=>er=aG J p
 |.ok r=>er=.nilIface/\k'=r.2.1/\lg'=r.2.2/\x=mV r.1
theorem CB(eQ:ak s k=k)(h91:gb s k≠91)(h123:gb s k≠123)(h:rg J (mT s k lg) x er k' lg'):l5 n J (fu n s k lg) w' M x er k' lg':=by
 unfold l5 rg at *;rw[ah1 (by rw[eQ];exact h91) (by rw[eQ];exact h123),eQ];cases hp:mT s k lg with
 |error p=>rw[hp]at h;exact h
 |ok r=>
  rw[hp]at h;obtain⟨h1,h2,h3,h4⟩:=h;exact⟨h1,h2,h3,by rw[h4];exact db.leaf n w' _ r.1⟩
theorem FP(h:r.2<0):fK J r=.nilIface:=by rw[fK,Zg h]
theorem FO(h:¬r.2<0):fK J r=aG J r.1:=by rw[fK,Zd h]
theorem agc(hg:gb s k=110):rg J (mT s k lg) (mV Lf.null) (fK J (aQ s k (-1) [110,117,108,108])) (aQ s k (-1) [110,117,108,108]).1 lg:=by
 have cQ:=Jj (s:=s) [110,117,108,108] k;unfold rg;rw[mT,Zd (by omega),Zd (by rw[hg];decide),Zg hg];by_cases h:(aQ s k (-1) [110,117,108,108]).2<0
 .rw[Zg h];exact⟨FP h,rfl,rfl,rfl⟩
 .rw[Zd h,FO h,(Bc cQ h).1]
theorem agb(hg:gb s k=102):rg J (mT s k lg) (mV (Lf.truth Zc)) (fK J (aQ s k (-1) [102,97,108,115,101])) (aQ s k (-1) [102,97,108,115,101]).1 lg:=by
 have cQ:=Jj (s:=s) [102,97,108,115,101] k;unfold rg;rw[mT,Zd (by omega),Zd (by rw[hg];decide),Zd (by omega),Zg hg];by_cases h:(aQ s k (-1) [102,97,108,115,101]).2<0
 .rw[Zg h];exact⟨FP h,rfl,rfl,rfl⟩
 .rw[Zd h,FO h,(Bc cQ h).1]
theorem age(hg:gb s k=116):rg J (mT s k lg) (mV (Lf.truth Zi)) (fK J (aQ s k (-1) [116,114,117,101])) (aQ s k (-1) [116,114,117,101]).1 lg:=by
 have cQ:=Jj (s:=s) [116,114,117,101] k;unfold rg;rw[mT,Zd (by omega),Zd (by rw[hg];decide),Zd (by omega),Zd (by omega),Zg hg];by_cases h:(aQ s k (-1) [116,114,117,101]).2<0
 .rw[Zg h];exact⟨FP h,rfl,rfl,rfl⟩
 .rw[Zd h,FO h,(Bc cQ h).1]
theorem agd(hg:gb s k=34):rg J (mT s k lg) (mV (Lf.str ⟨(aw s k).1.toArray⟩)) (fK J (aw s k).2) (aw s k).2.1 lg:=by
 have cQ:=UY s k;unfold rg;rw[mT,Zg hg];by_cases h:(aw s k).2.2<0
 .rw[Zg h];exact⟨FP h,rfl,rfl,rfl⟩
 .rw[Zd h,FO h,(Bc cQ h).1]
theorem agD(h1:gb s k≠45)(h2:aK (gb s k)=Zc):nI s k=(Za,k,(k:Ze)):=by
 have h:dQ s k=(Za,k,(k:Ze)):=by
  refine Cu (by rw[Zd h1]) ?_;have dA:gb s k≠48:=by intro e;rw[e]at h2;cases h2
  rw[kz,Zd dA,h2];rfl
 rw[agC (by rw[h];simp only;omega),h]
theorem To(gV:gb s k≠34)(h110:gb s k≠110)(h102:gb s k≠102)(h116:gb s k≠116)(h:Kj J (nI s k) (decide (gb s k=45)) lg (.returned (.tuple #[x,er])) lg'):
 rg J (mT s k lg) x er (nI s k).2.1 lg':=by
 have cQ:=agB s k;unfold rg;rw[mT,Zd gV];by_cases hd:gb s k=45\/aK (gb s k)=Zi
 .rw[Zg hd];rcases h with⟨h1,h2,h3⟩|⟨h1,h2,v,h3,h4⟩
  .rw[Zd (by omega),(Bc cQ (by omega)).1];injection h3 with h3;injection h3 with h3;have:=Zv (λa:Zq Zk=>a[1]?) h3;simpa using this
  .rw[Zg h1];injection h4 with h4;injection h4 with h4;have e1:=Zv (λa:Zq Zk=>a[1]?) h4;have e0:=Zv (λa:Zq Zk=>a[0]?) h4;refine⟨by simpa using e1,rfl,h2,?_⟩;have e0':x=.iface 97 (.int .i64 (if decide (gb s k=45)then -(v.getD 0)else v.getD 0)):=by simpa using e0
   rw[e0',h3];simp only[decide_eq_true_eq]
   rfl
 .have ey:gb s k≠45:=λe=>hd (.inl e)
  have ls:aK (gb s k)=Zc:=by cases hh:aK (gb s k)with
   |false=>rfl
   |true=>exact absurd (.inr hh) hd
  rw[Zd hd,Zd h110,Zd h102,Zd h116];rw[agD ey ls]at h;rcases h with⟨h1,h2,h3⟩|⟨h1,_⟩
  .injection h3 with h3;injection h3 with h3;have:=Zv (λa:Zq Zk=>a[1]?) h3;simpa using this
  .simp only at h1;omega
def Gw(n:Zb):Prop:=
 ∀(b:Zb) (s:Zj) (k:Zb) (op:Ze) (lg obj:Zf) (w:Zh) (J:Zl),op+(n:Ze)=12->0<=op->PS w b s k op lg J->dS w->15<=b->s.size<=1000->k<s.size->gb s k=(if obj then 123 else 91) ->
  Zo prog 36 #[.pointer (O ⟨b,0,Za⟩)] w λe w'=>∃x er k' lg',e=.returned (.tuple #[x,er])/\eI x/\ab b w w'/\PS w' b s k' op lg' J/\XX (l5 n J (DY n s k lg obj) w' w.heap.size x er k' lg')
theorem Uo(n:Zb)(hnest:Gw n):vc n:=by
 intro b s k op lg w J fF rL hp hE hG hs hk eQ;have HP:XX (PS w b s k op lg J):=hp;have HE:XX (dS w):=hE;have pJ:XX (ak s k=k):=eQ;have j9:XX (Gw n):=hnest;have gT:XX (op+(n:Ze)=12):=fF;obtain⟨c,hc⟩:∃c,c=pk s k:=⟨_,rfl⟩
 have HC:XX (pk s k=c):=hc.symm;have kA:XX (∀y:Ze,0<y->c=y->gb s k=y):=λy hy h=>(iT hy).1 (by rw[<-hc];exact h)
 have ql:XX (∀y:Ze,0<y->c≠y->gb s k≠y):=λy hy h e=>h (by rw[hc];exact(iT hy).2 e)
 clear hp hE eQ hnest hc fF;rcases(show c=110\/c=102\/c=116\/c=34\/c=91\/c=123\/(c≠110/\c≠102/\c≠116/\c≠34/\c≠91/\c≠123)from by omega)with rfl|rfl|rfl|rfl|rfl|rfl|⟨n1,n2,n3,n4,n5,n6⟩
 .have HG:XX (gb s k=110):=kA.o 110 (by omega) rfl;clear kA ql;go_enter func18,ntmps18;go_wp2_with fail;refine(eT b s k op lg _ HP.o hk hs).mono ?_;rintro e w1 ⟨rfl,n1,rfl⟩;rw[HC.o];go_wp2_with fail;refine(Fz b s ⟨#[110,117,108,108]⟩ k op lg _ (HP.o.drewN _) hk hs (by decide) (by decide)).mono ?_;rintro e w2 ⟨rfl,ah,bb⟩;go_wp2_with fail;go_ret2;exact⟨_,_,_,lg,rfl,CA Lf.null,((ab.refl _ _).drewN _).trans ah,bb,CB pJ.o (by rw[HG.o];decide) (by rw[HG.o];decide) (agc HG.o)⟩
 .have HG:XX (gb s k=102):=kA.o 102 (by omega) rfl;clear kA ql;go_enter func18,ntmps18;go_wp2_with fail;refine(eT b s k op lg _ HP.o hk hs).mono ?_;rintro e w1 ⟨rfl,n1,rfl⟩;rw[HC.o];go_wp2_with fail;refine(Fz b s ⟨#[102,97,108,115,101]⟩ k op lg _ (HP.o.drewN _) hk hs (by decide) (by decide)).mono ?_;rintro e w2 ⟨rfl,ah,bb⟩;go_wp2_with fail;go_ret2;exact⟨_,_,_,lg,rfl,CA (Lf.truth Zc),((ab.refl _ _).drewN _).trans ah,bb,CB pJ.o (by rw[HG.o];decide) (by rw[HG.o];decide) (agb HG.o)⟩
 .have HG:XX (gb s k=116):=kA.o 116 (by omega) rfl;clear kA ql;go_enter func18,ntmps18;go_wp2_with fail;refine(eT b s k op lg _ HP.o hk hs).mono ?_;rintro e w1 ⟨rfl,n1,rfl⟩;rw[HC.o];go_wp2_with fail;refine(Fz b s ⟨#[116,114,117,101]⟩ k op lg _ (HP.o.drewN _) hk hs (by decide) (by decide)).mono ?_;rintro e w2 ⟨rfl,ah,bb⟩;go_wp2_with fail;go_ret2;exact⟨_,_,_,lg,rfl,CA (Lf.truth Zi),((ab.refl _ _).drewN _).trans ah,bb,CB pJ.o (by rw[HG.o];decide) (by rw[HG.o];decide) (age HG.o)⟩
 .have HG:XX (gb s k=34):=kA.o 34 (by omega) rfl;clear kA ql;go_enter func18,ntmps18;go_wp2_with fail;refine(eT b s k op lg _ HP.o hk hs).mono ?_;rintro e w1 ⟨rfl,n1,rfl⟩;rw[HC.o];go_wp2_with fail;refine(FA b s k op lg _ (HP.o.drewN _) HE.o.1 hG hs HG.o).mono ?_;rintro e w2 ⟨rfl,ah,bb⟩;go_wp2_with fail;go_ret2;exact⟨_,_,_,lg,rfl,CA (Lf.str ⟨(aw s k).1.toArray⟩),((ab.refl _ _).drewN _).trans ah,bb,CB pJ.o (by rw[HG.o];decide) (by rw[HG.o];decide) (agd HG.o)⟩
 .have HG:XX (gb s k=91):=kA.o 91 (by omega) rfl;have ai:=cC (s:=s) (k:=k) (by have:=HG.o;omega);clear kA ql;go_enter func18,ntmps18;go_wp2_with fail;refine(eT b s k op lg _ HP.o hk hs).mono ?_;rintro e w1 ⟨rfl,n1,rfl⟩;rw[HC.o];go_wp2_with fail;refine(j9.o b s k op lg Zc _ J gT.o rL (HP.o.drewN _) (HE.o.drewN _) hG hs ai HG.o).mono ?_;rintro e w2 ⟨x,er,k2,lg2,rfl,lP,ah,bb,fh⟩;go_wp2_with fail;go_ret2;refine⟨x,er,k2,lg2,rfl,lP,((ab.refl _ _).drewN _).trans ah,bb,?_⟩;show l5 _ _ _ _ _ _ _ _ _;have h:=Ul (n:=n) (s:=s) (k:=k) (lg:=lg) Zc (by rw[pJ.o];exact HG.o);rw[pJ.o]at h;rw[h];exact fh.o
 .have HG:XX (gb s k=123):=kA.o 123 (by omega) rfl;have ai:=cC (s:=s) (k:=k) (by have:=HG.o;omega);clear kA ql;go_enter func18,ntmps18;go_wp2_with fail;refine(eT b s k op lg _ HP.o hk hs).mono ?_;rintro e w1 ⟨rfl,n1,rfl⟩;rw[HC.o];go_wp2_with fail;refine(j9.o b s k op lg Zi _ J gT.o rL (HP.o.drewN _) (HE.o.drewN _) hG hs ai HG.o).mono ?_;rintro e w2 ⟨x,er,k2,lg2,rfl,lP,ah,bb,fh⟩;go_wp2_with fail;go_ret2;refine⟨x,er,k2,lg2,rfl,lP,((ab.refl _ _).drewN _).trans ah,bb,?_⟩;show l5 _ _ _ _ _ _ _ _ _;have h:=Ul (n:=n) (s:=s) (k:=k) (lg:=lg) Zi (by rw[pJ.o];exact HG.o);rw[pJ.o]at h;rw[h];exact fh.o
 .have H1:XX (gb s k≠110/\gb s k≠102/\gb s k≠116/\gb s k≠34/\gb s k≠91/\gb s k≠123):=⟨ql.o _ (by omega) n1,ql.o _ (by omega) n2,ql.o _ (by omega) n3,ql.o _ (by omega) n4,ql.o _ (by omega) n5,ql.o _ (by omega) n6⟩
  have m1:(c==110)=Zc:=Zu.2 n1;have m2:(c==102)=Zc:=Zu.2 n2;have m3:(c==116)=Zc:=Zu.2 n3;have m4:(c==34)=Zc:=Zu.2 n4;have m5:(c==91)=Zc:=Zu.2 n5;have m6:(c==123)=Zc:=Zu.2 n6;clear kA ql n1 n2 n3 n4 n5 n6;go_enter func18,ntmps18;go_wp2_with fail;refine(eT b s k op lg _ HP.o hk hs).mono ?_;rintro e w1 ⟨rfl,n1,rfl⟩;rw[HC.o];go_wp2_with fail;refine(ahw b s k op lg _ (HP.o.drewN _) (HE.o.drewN _) hG hk hs).mono ?_;rintro e w2 ⟨lg2,rJ,ah,bb⟩;have hn:=rJ.o;rcases hn with⟨q1,q2,q3⟩|⟨q1,q2,v,q3,q4⟩
  .subst q3;clear q1 q2;go_wp2_with fail;go_ret2;exact⟨_,_,_,lg2,rfl,.inl rfl,((ab.refl _ _).drewN _).trans ah,bb,CB pJ.o H1.o.2.2.2.2.1 H1.o.2.2.2.2.2 (To H1.o.2.2.2.1 H1.o.1 H1.o.2.1 H1.o.2.2.1 rJ.o)⟩
  .obtain⟨z,hz⟩:∃z,z=(if decide (gb s k=45)=Zi then -(v.getD 0)else v.getD 0):=⟨_,rfl⟩
   rw[<-hz]at q4;subst q4;clear q1 q2 q3 hz;go_wp2_with fail;go_ret2;exact⟨_,_,_,lg2,rfl,.inr ⟨_,_,rfl⟩,((ab.refl _ _).drewN _).trans ah,bb,CB pJ.o H1.o.2.2.2.2.1 H1.o.2.2.2.2.2 (To H1.o.2.2.2.1 H1.o.1 H1.o.2.1 H1.o.2.2.1 rJ.o)⟩
theorem aht:Gw 0:=by
 intro b s k op lg obj w J fF rL hp hE hG hs hk hg;have HP:XX (PS w b s k op lg J):=hp;obtain⟨g0,g1,g2,g3,hf⟩:=iq hp.1;have aeP:op=12:=by simpa using fF
 subst aeP;clear hp hE g0 g1 g3 hf fF hg;go_enter func36,ntmps36;go_wp2_with fail;refine(pC b s k 12 lg _ HP.o).mono ?_;rintro e w1 ⟨rfl,n1,rfl⟩;rw[aG];go_wp2_with fail;go_ret2;exact⟨_,_,k,lg,rfl,.inl rfl,(ab.refl _ _).drewN _,HP.o.drewN _,rfl⟩
theorem Ub{R:Zr Zb (VT n×Zb×Zf)}(h:l5 n J R w M x er k' lg')(hb:ab b w w')(hbM:b<M):l5 n J R w' M x er k' lg':=by
 unfold l5 at *;cases R with
 |error p=>exact h
 |ok r=>
  obtain⟨h1,h2,h3,h4⟩:=h;exact⟨h1,h2,h3,db.keep n h4 (λi hi ai=>⟨hb.block i ai (by intro e;injection e;omega),hi⟩)⟩
theorem Uc{R:Zr Zb (VT n×Zb×Zf)}{M':Zb}(h:l5 n J R w M x er k' lg')(hM:M'<=M):l5 n J R w M' x er k' lg':=by
 unfold l5 at *;cases R with
 |error p=>exact h
 |ok r=>
  obtain⟨h1,h2,h3,h4⟩:=h;exact⟨h1,h2,h3,db.keep n h4 (λi hi ai=>⟨rfl,by omega⟩)⟩
theorem ahs(n:Zb)(hval:vc n):Gw (n+1):=by
 intro b s k op lg obj w J fF rL hp hE hG hs hk hg;have HP:XX (PS w b s k op lg J):=hp;have HE:XX (dS w):=hE;have HV:XX (vc n):=hval;obtain⟨g0,g1,g2,g3,hf⟩:=iq hp.1;have bj:(op==12)=Zc:=Zu.2 (by omega);have amp:op<=11:=by omega
 have gT:XX (op+1+(n:Ze)=12):=by show _=_;omega
 have ed:=al hp.1;have hmf:∀(fn:Fn) (first cap:Zq Zk) (w:Zh),(Instr.makeFunc fn first cap).run prog w=.ok (.func fn first cap) w:=λ_ _ _ _=>rfl
 cases obj
 .have wO:XX (pk s k=91):=(iT (by omega)).2 (by simpa using hg);clear hp hE fF hg hval g0 g3;go_enter func36,ntmps36;go_wp2_with fail;refine(eT b s k (op+1) lg _ (HP.o.open (op+1)) (by omega) hs).mono ?_;rintro e w1 ⟨rfl,n1,rfl⟩;rw[wO.o];have aX:XX (PS ((w.setCell ⟨b,2,Za⟩ (.int .i64 (op+1))).drewN n1) b s k (op+1) lg J):=(HP.o.open (op+1)).drewN n1;obtain⟨y0,y1,y2,y3,yf⟩:=iq aX.o.1;clear y0 y2 y3 g1 g2 hf;go_wp2_with fail;have vD:ab b w ((((w.setCell ⟨b,2,Za⟩ (.int .i64 (op+1))).drewN n1).setCell ⟨b,1,Za⟩ (.int .i64 ((k:Ze)+1)))):=(((ab.refl b w).setCell _ _).drewN n1).setCell _ _;refine(ahn n HV.o b s (k+1) (op+1) lg _ J gT.o (by omega) (aX.o.at (k+1) (by omega)) (HE.o.but vD hG) hG hs (by omega) (by omega)).mono ?_;rintro e w3 ⟨x,er,k3,lg3,rfl,tk,ap,bk,nY⟩;have ge:XX (PS w3 b s k3 (op+1) lg3 J):=bk;have bo:XX (ab b w w3):=vD.trans ap;have nj:=gp (Uc (M':=w.heap.size) nY.o vD.size);obtain⟨z0,z1,z2,z3,zf⟩:=iq bk.1;clear z0 z1 z3 bk vD ap nY;go_wp2_with fail;go_ret2;have aeO:op+1-1=op:=by omega
  refine⟨x,er,k3,lg3,rfl,tk,bo.o.setCell _ _,ge.o.open op,?_⟩;show l5 _ _ _ _ _ _ _ _ _;exact Ub nj.o ((ab.refl b w3).setCell _ _) ed
 .have wO:XX (pk s k=123):=(iT (by omega)).2 (by simpa using hg);clear hp hE fF hg hval g0 g3;go_enter func36,ntmps36;go_wp2_with fail;refine(eT b s k (op+1) lg _ (HP.o.open (op+1)) (by omega) hs).mono ?_;rintro e w1 ⟨rfl,n1,rfl⟩;rw[wO.o];have aX:XX (PS ((w.setCell ⟨b,2,Za⟩ (.int .i64 (op+1))).drewN n1) b s k (op+1) lg J):=(HP.o.open (op+1)).drewN n1;obtain⟨y0,y1,y2,y3,yf⟩:=iq aX.o.1;clear y0 y2 y3 g1 g2 hf;go_wp2_with fail;have vD:ab b w ((((w.setCell ⟨b,2,Za⟩ (.int .i64 (op+1))).drewN n1).setCell ⟨b,1,Za⟩ (.int .i64 ((k:Ze)+1)))):=(((ab.refl b w).setCell _ _).drewN n1).setCell _ _;refine(ahy n HV.o b s (k+1) (op+1) lg _ J gT.o (by omega) (aX.o.at (k+1) (by omega)) (HE.o.but vD hG) hG hs (by omega) (by omega)).mono ?_;rintro e w3 ⟨x,er,k3,lg3,rfl,tk,ap,bk,nY⟩;have ge:XX (PS w3 b s k3 (op+1) lg3 J):=bk;have bo:XX (ab b w w3):=vD.trans ap;have nj:=gp (Uc (M':=w.heap.size) nY.o vD.size);obtain⟨z0,z1,z2,z3,zf⟩:=iq bk.1;clear z0 z1 z3 bk vD ap nY;go_wp2_with fail;go_ret2;have aeO:op+1-1=op:=by omega
  refine⟨x,er,k3,lg3,rfl,tk,bo.o.setCell _ _,ge.o.open op,?_⟩;show l5 _ _ _ _ _ _ _ _ _;exact Ub nj.o ((ab.refl b w3).setCell _ _) ed
theorem Um:∀n,vc n
 |0=>Uo 0 aht
 |n+1=>Uo (n+1) (ahs n (Um n))
structure fw(w:Zh)(L S N A J La:Zl):Prop where
 size:15<=w.heap.size
 sents:mw w L S N A J La
 json:w.heap[5]?=O (.cells #[.iface 279 (.pointer (O J))] 29 (0,0))
 env:dS w
 errT:rZ w
 pow:lj w.heap.size w
theorem fw.below{N:Zl}(h:fw w L S N A J La)(hb:Zt w.heap.size w w'):fw w' L S N A J La:=
 ⟨Zx h.size hb.size,h.sents.below hb,(hb.block _ (al h.json)).trans h.json,h.env.below hb,h.errT.below hb,λw2 h2=>h.pow w2 (hb.trans (h2.mono hb.size))⟩
theorem db.keep2:∀(n:Zb) {w:Zh} {A:Zb->Prop} {v:VT n} {x:Zk},db n w A v x->db n w (λm=>m<w.heap.size) v x
 |0,w,A,v,x,h=>h
 |n+1,w,A,v,x,h=>by
  match v,h with
  |Sum.inl l,h=>exact h
  |ZA (Sum.inl vs),h=>
   obtain⟨sl,xs,hx,hr,hl,cG⟩:=h;exact⟨sl,xs,hx,hr,λg hg=>hr.lt hg,cG.mono (λa b eA=>db.keep2 n eA)⟩
  |ZA (ZA (ks,vs)),h=>
   obtain⟨sl,xs,hx,hr,hl,cG⟩:=h;exact⟨sl,xs,hx,hr,λg hg=>hr.lt hg,cG.mono (λa b eA=>db.keep2 n eA)⟩
def FH(s:Zj)(R:Zr Zb (VT 12×Zb×Zf)):Zm UInt8×Zb×Ze:=
 match R with
 |.error q=>([],q,5)
 |.ok r=>if ak s r.2.1<s.size then([],ak s r.2.1,5)else if r.2.2 then([],0,6)else(aF 12 r.1,0,0)
theorem aiP{r r':Zr Zb (VT 12×Zb×Zf)}(h:wW s r r'):FH s r=FH s r':=by
 rcases h with h|⟨x,h1,h2,h3⟩
 .rw[h]
 .rw[h1,h3];obtain⟨n1,n2,n3,n4,n5⟩:=MD h2;simp only[FH];rw[uH n4,Zg (cC (by omega))]
theorem aiO(h:¬1000<s.size):eG s=FH s (fu 12 s 0 Zc):=by
 rw[<-aiP (IS 12 s 0 Zc),eG,Zd h];rfl
def A5(s:Zj)(L J La:Zl)(w':Zh)(M:Zb)(x er:Zk):Prop:=
 ((eG s).2.2=1/\(eG s).1=[]/\(eG s).2.1=0/\er=.iface 279 (.pointer (O L))) \/
 ((eG s).2.2=5/\(eG s).1=[]/\er=aG J (eG s).2.1) \/
 ((eG s).2.2=6/\(eG s).1=[]/\(eG s).2.1=0/\er=.iface 279 (.pointer (O La))/\x=.nilIface) \/
 ((eG s).2.2=0/\(eG s).2.1=0/\er=.nilIface/\∃v,(eG s).1=aF 12 v/\fV 12 v/\(aF 12 v).length<=600000/\db 12 w' (λm=>M<=m) v x/\∃k lg,cZ 12 s 0 Zc=.ok (v,k,lg))
theorem ais(s:Zj)(w:Zh)(iQ:s.size<=maxLen){N:Zl}(h:fw w L S N A J La):
 Zo prog 9 #[.string s] w λe w'=>∃x er,e=.returned (.tuple #[x,er])/\Zt w.heap.size w w'/\XX (A5 s L J La w' w.heap.size x er):=by
 unfold maxLen at iQ;have HH:XX (fw w L S N A J La):=h;by_cases ns:1000<s.size
 .have HT:XX (eG s=([],0,1)):=by show _=_;rw[eG,Zg ns]
  have c0:=h.sents.cL;clear h;go_enter func9,ntmps9;go_wp2_with fail;go_quiet (fail);go_wp2;go_ret2;refine⟨_,_,rfl,⟨rfl,rfl,rfl,Zp _,λ_ _=>rfl⟩,?_⟩;show A5 _ _ _ _ _ _ _ _
  left
  rw[HT.o];exact⟨rfl,rfl,rfl,rfl⟩
 .have hs:s.size<=1000:=by omega
  obtain⟨R,hR⟩:∃R,R=fu 12 s 0 Zc:=⟨_,rfl⟩
  have pK:XX (eG s=FH s R):=by show _=_;rw[hR];exact aiO ns
  have HR:XX (fu 12 s (ak s 0) Zc=R):=by show _=_;rw[CE];exact hR.symm
  have xz:PS (w.alloc (nJ s 0 0 Zc)) w.heap.size s 0 0 Zc J:=
   ⟨aE rfl,cj h.json,by have:=al h.json;omega⟩
  have pU:Zt w.heap.size w (w.alloc (nJ s 0 0 Zc)):=(Zt.refl _ w).alloc (Zp _) _;have HW:XX (fw (w.alloc (nJ s 0 0 Zc)) L S N A J La):=h.below pU;have sA:XX (PS (w.alloc (nJ s 0 0 Zc)) w.heap.size s 0 0 Zc J):=xz;have bB:XX (Zt w.heap.size w (w.alloc (nJ s 0 0 Zc))):=pU;have QU:15<=w.heap.size:=h.size;have St:=iH s 0 (Zy _);obtain⟨k0,fe⟩:∃k0,k0=ak s 0:=⟨_,rfl⟩
  have oq:XX (ak s k0=k0):=by show _=_;rw[fe,CK]
  rw[<-fe]at HR St;have tI:XX (ak s 0=k0):=fe.symm;clear h xz pU hR fe;go_enter func9,ntmps9;go_wp2_with fail;refine(xM w.heap.size s 0 0 Zc _ sA.o (Zy _) hs).mono ?_;rintro e w1 ⟨rfl,ae,aC⟩;rw[tI.o]at aC;have aX:XX (PS w1 w.heap.size s k0 0 Zc J):=aC;have qT:XX (dS w1):=HW.o.env.but ae QU;clear aC;go_wp2_with fail;refine(Um 12 w.heap.size s k0 0 Zc w1 J (by decide) (by decide) aX.o qT.o QU hs St oq.o).mono ?_;rintro e w2 ⟨x,er,k2,lg2,rfl,lP,ah,bb,fh⟩;rw[HR.o]at fh;have gd:XX (PS w2 w.heap.size s k2 0 lg2 J):=bb;have rt:ab w.heap.size (w.alloc (nJ s 0 0 Zc)) w2:=ae.trans ah;have aY:XX (Zt w.heap.size w w2):=bB.o.trans (rt.below (Zp _) (by simp));have io:w.heap.size<w1.heap.size:=by have:=ae.size;simp at this;omega
  have Mi:=fh.o;clear bb fh ae ah rt;cases R with
  |error q=>
   have EP:er=aG J q:=Mi;subst EP;have HT:XX (eG s=([],q,5)):=pK.o;clear Mi pK;rw[aG];go_wp2_with fail;go_ret2;refine⟨.nilIface,aG J q,rfl,aY.o,?_⟩;show A5 _ _ _ _ _ _ _ _
   right;left
   rw[HT.o];exact⟨rfl,rfl,rfl⟩
  |ok r=>
   obtain⟨r1,r2,r3,r4⟩:=Mi;subst r1;subst r2;subst r3;have dj:cZ 12 s 0 Zc=.ok r:=Ns (by rw[<-CE,tI.o];exact HR.o);have nh:=gp dj;have be:=Fk s hs 12 0 Zc r.1 r.2.1 r.2.2 (Zy _) dj;have gW:r.2.1<=s.size:=be.2.2.2;have gQ:XX (fV 12 r.1/\(aF 12 r.1).length<=600000):=⟨be.1,by have:=be.2.1;omega⟩
   have ie:XX (db 12 w2 (λm=>w1.heap.size<=m) r.1 x):=r4;have eQ:=iH s r.2.1 gW;obtain⟨k3,rE⟩:∃k3,k3=ak s r.2.1:=⟨_,rfl⟩
   have tH:XX (ak s r.2.1=k3):=rE.symm;rw[<-rE]at eQ;have yy:XX (eG s=if k3<s.size then([],k3,5)else if r.2.2 then([],0,6)else(aF 12 r.1,0,0)):=by show _=_;rw[pK.o,rE];rfl
   clear dj be r4 rE pK HR;go_wp2_with fail;refine(xM w.heap.size s _ 0 _ w2 gd.o gW hs).mono ?_;rintro e w3 ⟨rfl,ap,bk⟩;rw[tH.o]at bk;have ge:XX (PS w3 w.heap.size s k3 0 r.2.2 J):=bk;have bo:XX (Zt w.heap.size w w3):=aY.o.trans (ap.below (Zp _) aY.o.size);have J2:XX (db 12 w3 (λm=>w.heap.size<=m) r.1 x):=db.keep 12 ie.o (λi hi ai=>⟨ap.block i ai (by intro e;injection e;omega),by omega⟩);obtain⟨y0,y1,y2,y3,yf⟩:=iq bk.1;obtain⟨lg3,oH⟩:∃lg3,lg3=r.2.2:=⟨_,rfl⟩
   rw[<-oH]at ge yy y3;clear bk ap y2 yf ie gd aY oH;by_cases ai:k3<s.size
   .have HT:XX (eG s=([],k3,5)):=by show _=_;rw[yy.o,Zg ai]
    clear yy;go_wp2_with fail;refine(pC w.heap.size s k3 0 _ _ ge.o).mono ?_;rintro e w4 ⟨rfl,n4,rfl⟩;rw[aG];go_wp2_with fail;go_ret2;refine⟨.nilIface,aG J k3,rfl,⟨bo.o.os,bo.o.tape,bo.o.output,bo.o.size,bo.o.block⟩,?_⟩;show A5 _ _ _ _ _ _ _ _
    right;left
    rw[HT.o];exact⟨rfl,rfl,rfl⟩
   .cases lg3
    .have HT:XX (eG s=(aF 12 r.1,0,0)):=by show _=_;rw[yy.o,Zd ai];rfl
     clear yy;go_wp2_with fail;go_ret2;refine⟨x,.nilIface,rfl,bo.o,?_⟩;show A5 _ _ _ _ _ _ _ _
     right;right;right
     rw[HT.o];exact⟨rfl,rfl,rfl,r.1,rfl,gQ.o.1,gQ.o.2,J2.o,r.2.1,_,nh.o⟩
    .have HT:XX (eG s=([],0,6)):=by show _=_;rw[yy.o,Zd ai];rfl
     have c1:=(HH.o.below bo.o).sents.cLa;clear yy;go_wp2_with fail;go_quiet (fail);go_wp2;go_ret2;refine⟨.nilIface,_,rfl,⟨bo.o.os,bo.o.tape,bo.o.output,bo.o.size,bo.o.block⟩,?_⟩;show A5 _ _ _ _ _ _ _ _
     right;right;left
     rw[HT.o];exact⟨rfl,rfl,rfl,rfl,rfl⟩
end Go.Proofs.YtdlgkgfeoiohiaaGreatDoor
