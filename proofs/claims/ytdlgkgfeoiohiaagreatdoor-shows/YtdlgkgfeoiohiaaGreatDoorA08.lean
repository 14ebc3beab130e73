/- Part 8. -/
import Derived.Test.YtdlgkgfeoiohiaaGreatDoorA06
open Bool renaming false -> Zc,true -> Zi
open Go.Value renaming ownBlock -> Zv
open Go.World renaming setCell -> Zr
open List renaming length_append -> Zw
open Nat renaming le_trans -> Zd,lt_of_lt_of_le -> Zj,le_of_lt -> Zt,le_refl -> Zu
open Option renaming some -> O,none -> Ze
open Or renaming inr -> Zk,inl -> Zl
open Prod.mk renaming injEq -> Zn
open _root_ renaming Nat -> Za,List -> Zb,Int -> Zf,Bool -> Zg,if_neg -> Zh,Except -> Zm,absurd -> Zo,if_pos -> Zp,ByteArray -> Zq,beq_eq_false_iff_ne -> Zx
namespace Go.Proofs.YtdlgkgfeoiohiaaGreatDoor
set_option linter.unusedVariables false
set_option maxHeartbeats 16000000
set_option maxRecDepth 100000
open Go.RowKit J Tryz
variable {n N k f b k0 M:Za}{ks:Zb Zq}{w w' w2:World}{s:Zq}{lg fst:Zg}{α K:Type}{t:Zb UInt8×Za×Zf}{p2:Value}
def mu(n N:Za)(wr:World)(vs:Zb (VT n)):Prop:=
 ∃l wt ps,wr.heap[N]?=O (dq 108 0 ⟨#[]⟩ l eE wt)/\ao wr 51 l ps/\(∀g,l.ownBlock=O g->N<g)/\bO (br n wr (λm=>N<m/\l.ownBlock≠O m)) vs ps
theorem mu.but{vs:Zb (VT n)}(h:mu n N w vs)(hb:ab b w w')(bT:b<N):mu n N w' vs:=by
 obtain⟨l,wt,ps,h1,h2,h3,h4⟩:=h;refine⟨l,wt,ps,?_,h2.kept (cI.of_but hb) (λk hk e=>by have:=h3 k hk;omega),h3,A8 h4 (λk o hk ho=>⟨hb.block k (al ho) (by intro e;injection e;omega),hk⟩)⟩;exact(hb.block N (al h1) (by intro e;injection e;omega)).trans h1
theorem mu.ref{vs:Zb (VT n)}(h:mu n N w vs):br (n+1) w (λm=>N<=m) (VT.list vs) (.pointer (O ⟨N,0,Ze⟩)):=by
 obtain⟨l,wt,ps,h1,h2,h3,h4⟩:=h;exact⟨N,wt,l,ps,rfl,Zu _,h1,h2,λg hg=>Zt (h3 g hg),h4.mono (λa b eA=>br.keep n eA (λk o hk _=>⟨rfl,Zt hk.1⟩))⟩
theorem mu.ptr{vs:Zb (VT n)}(h:mu n N w vs):ox w (λm=>N<=m) (.pointer (O ⟨N,0,Ze⟩)):=br.some1 (n+1) h.ref
theorem Pm{vs:Zb (VT n)}(mN:mu n N w vs)(hb:ab b w w2)(bT:b<N)(hM:M=w.heap.size)(hNM:N<M)(hp:ox w2 (λm=>M<=m) p2)(az:vs.length<=2000):
 Calls prog 175 #[.pointer (O ⟨N,0,Ze⟩),p2] w2 λe w3=>e=.returned (.tuple #[])/\cI (λk=>N<=k) w2 w3/\(∃kind k s l ks wt,w3.heap[N]?=O (dq kind k s l ks wt))/\XX (∀v2,br n w2 (λm=>M<=m) v2 p2->mu n N w3 (vs++[v2])):=by
 obtain⟨l,wt,ps,h1,h2,h3,h4⟩:=mN;obtain⟨m2,a1,a2,a3,a4,a5,a6,rfl,hA,hh⟩:=hp;have h1':w2.heap[N]?=O (dq 108 0 ⟨#[]⟩ l eE wt):=(hb.block N (al h1) (by intro e;injection e;omega)).trans h1;have h2':ao w2 51 l ps:=h2.kept (cI.of_but hb) (λk hk e=>by have:=h3 k hk;omega);have h4':=A8 (w':=w2) (B:=λm=>N<m/\l.ownBlock≠O m) h4 (λk o hk ho=>⟨hb.block k (al ho) (by intro e;injection e;omega),hk⟩);have qK:∀g,l.ownBlock=O g->N<g/\g<M:=λg hg=>⟨h3 g hg,by rw[hM];exact h2.lt hg⟩
 refine(aaR N m2 108 0 ⟨#[]⟩ l eE wt a1 a2 a3 a4 a5 a6 ps w2 h1' hh (by omega) h2' (λg hg=>by have:=qK g hg;omega) (by rw[<-h4.length];exact az)).mono ?_;rintro e w3 ⟨rfl,l',wt',r1,r2,r3,r4⟩;refine⟨rfl,r4.mono (λi _ h=>?_),⟨_,_,_,_,_,_,r1⟩,?_⟩
 .rcases h with h|h
  .omega
  .have:=qK i h;omega
 .intro v2 cH;have:=af6 h4' cH hNM qK r3 (by rw[hM];exact hb.size) r4;exact⟨l',wt',_,r1,r2,this.2,this.1⟩
theorem aik{R:Zm Za (Zb (VT n)×Za×Zg)}(h:R=gH (cZ n s) s (s.size+1) Zi (ak s (k+1)) lg []):qz (n+1) s k lg Zc=R.map λr=>(VT.list r.1,r.2):=by
 rw[h];rfl
theorem aa9(n:Za)(hval:A7 n)(b:Za)(s:Zq)(k:Za)(d:Zf)(lg:Zg)(w:World)(hd:d+((n+1:Za):Zf)=12)(cy:0<=d)(hb:w.heap[b]?=O (aq s k d (-1) lg))(hs:s.size<=1000)(hk:k<s.size):
 Calls prog 122 #[.pointer (O ⟨b,0,Ze⟩),.bool Zc] w λe w'=>∃p v k' bad' lg',e=.returned p/\ab b w w'/\XX (bad'<0->br (n+1) w' (λm=>w.heap.size<=m) v p)/\ox w' (λm=>w.heap.size<=m) p/\w'.heap[b]?=O (aq s k' d bad' lg')/\-1<=bad'/\XX (bad'<0->k<=k'/\k'<=s.size)/\XX (lk (qz (n+1) s k lg Zc) v k' bad' lg'):=by
 obtain⟨g0,g1,g2,g3,g4,hf⟩:=fS hb;have BG:(d==12)=Zc:=Zx.2 (by omega);have LI:d<=11:=by omega
 have HB:XX (w.heap[b]?=O (aq s k d (-1) lg)):=hb;have ed:=al hb;obtain⟨N,hN⟩:∃N,N=w.heap.size:=⟨_,rfl⟩
 have HN:XX (N=w.heap.size):=hN;have bT:b<N:=by omega
 have HV:XX (A7 n):=hval;obtain⟨R,hR⟩:∃R,R=gH (cZ n s) s (s.size+1) Zi (ak s (k+1)) lg []:=⟨_,rfl⟩
 have lU:XX (qz (n+1) s k lg Zc=R.map λr=>(VT.list r.1,r.2)):=aik hR;have HR:XX (gH (cZ n s) s (s.size+1) Zi (ak s (k+1)) lg []=R):=hR.symm;have wJ:XX (d+1+(n:Zf)=12):=by show _=_;omega
 clear hb g0 g3 g4 hval hR hd hN;go_enter func122,ntmps122;go_wp2_with (go_at_call 79;refine(rn b s (k+1) (d+1) lg _ (by exact cj (xQ (ml HB.o (k+1) (by omega)) _)) hs).mono ?_;rintro e w1 ⟨rfl,dG,eP⟩)
 have vA:ab b w w1:=((((ab.refl b w).setCell _ _).setCell _ _).alloc _).trans dG;have io:N+1<=w1.heap.size:=by have:=dG.size;simp[Zr]at this;have:=HN.o;omega
 have EV:mu n N w1 []:=by
  refine⟨eE,1,[],?_,ao.nil _ _,λg hg=>by simp[eE,Zv]at hg,trivial⟩;refine(dG.block N (by simp[Zr];have:=HN.o;omega) (by intro e;injection e;omega)).trans ?_;exact aE (by simp[Zr];exact HN.o.symm)
 have xw:k<ak s (k+1):=fJ s (k+1);have l8:ak s (k+1)<=s.size:=iH s (k+1) (by omega);clear dG g1 g2 hf;go_loopg [7] (s.size+1) (λg fv wr=>ab b w wr/\N+1<=wr.heap.size/\((∃fst j lgj vs,fv=.bool fst/\k<j/\j<=s.size/\(if fst then s.size+1 else s.size)<j+g/\vs.length+g<=s.size+1/\gH (cZ n s) s g fst j lgj vs=R/\wr.heap[b]?=O (aq s j (d+1) (-1) lgj)/\mu n N wr vs) \/
  (∃fst k' p lg',fv=.bool fst/\R=.error p/\wr.heap[b]?=O (aq s k' (d+1) (p:Za) lg')/\∃kind kk ss l ks wt,wr.heap[N]?=O (dq kind kk ss l ks wt))))
 case atStart=>exact⟨vA,io,Zl ⟨Zi,ak s (k+1),lg,[],rfl,xw,l8,by rw[Zp rfl];omega,by simp,HR.o,eP,EV⟩⟩
 case round=>
  obtain⟨ar,aH,zE⟩:=hrel;clear vA io EV eP xw l8 HR;rcases zE with⟨fst,j,lgj,vs,rfl,L0,hj,jM,oJ,hL,cd,mN⟩|⟨fst,k',p,lg',rfl,pV,cd,nC⟩
  .have aer:s.size<j+gk:=by split at jM <;> omega
   obtain⟨f,rfl⟩:∃f,gk=f+1:=⟨gk-1,by omega⟩
   have yq:XX ((if fst then s.size+1 else s.size)<j+(f+1)):=jM;clear jM;have HL:XX (gH (cZ n s) s (f+1) fst j lgj vs=R):=hL;have aY:XX (wr.heap[b]?=O (aq s j (d+1) (-1) lgj)):=cd;have HI:XX (mu n N wr vs):=mN;obtain⟨g0,g1,g2,g3,g4,hf⟩:=fS cd;obtain⟨c,hc⟩:∃c,c=gb s j:=⟨_,rfl⟩
   have bF:=iN s j;rw[<-hc]at bF;have HC:XX (c=gb s j):=hc;clear hL cd mN hc g0 g1 g2 g4;by_cases h93:c=93
   .subst h93;have nu:j<s.size:=cC (by rw[<-HC.o];omega);have HF:XX (R=.ok (vs,j+1,lgj)):=HL.o.symm.trans (Th HC.o.symm);clear hf;cases fst
    all_goals
     go_wp2_with (go_at_call 174;refine(I4 b s j (d+1) (-1) lgj 93 _ (by exact aY.o) (by rw[ct,<-HC.o]) (by omega) (by omega)).mono ?_;rintro e w2 ⟨rfl,ce,dc⟩;obtain⟨q0,q1,q2,q3,q4,qf⟩:=fS dc;have bo:XX (w2.heap[b]?=O (aq s (j+1) (d+1) (-1) lgj)):=dc;clear dc q0 q1 q3 q4)
     go_ret;have vG:mu n N (w2.setCell ⟨b,2,Ze⟩ (.int .i64 d)) vs:=(HI.o.but ce bT).but ((ab.refl b w2).setCell _ _) bT;refine⟨.pointer (O ⟨N,0,Ze⟩),VT.list vs,j+1,-1,lgj,?_,(ar.trans ce).setCell _ _,λ_=>?_,?_,xQ bo.o d,by omega,λ_=>⟨by omega,by omega⟩,?_⟩
     .rw[HN.o];rfl
     .rw[<-HN.o];exact vG.ref
     .rw[<-HN.o];exact vG.ptr
     .show lk _ _ _ _ _;rw[lU.o,HF.o];exact⟨rfl,rfl,rfl,rfl⟩
   .have Ay:XX (gb s j≠93):=by show _≠_;rw[<-HC.o];exact h93
    have nM:XX (cv s j (-1)≠93):=by show _≠_;rw[ct];exact Ay.o
    clear h93;cases fst
    .by_cases h44:c=44
     .subst h44;have nu:j<s.size:=cC (by rw[<-HC.o];omega);go_wp2_with (first
       |(go_at_call 174;refine(xV b s j (d+1) (-1) lgj 93 _ (by exact aY.o) nM.o (by omega) (by omega)).mono ?_;rintro e w2 ⟨rfl,ce,dc⟩;obtain⟨q0,q1,q2,q3,q4,qf⟩:=fS dc;have bo:XX (w2.heap[b]?=O (aq s j (d+1) (-1) lgj)):=dc;clear dc q0 q2 q3 q4)
       |(go_at_call 121;refine(dC b s j (d+1) (-1) lgj _ (by exact bo.o)).mono ?_;rintro e w3 ⟨rfl,nd,rfl⟩;rw[ct,<-HC.o]))
      refine(HV.o b s (j+1) (d+1) lgj _ wJ.o (by omega) (by exact ml (w:=w2.drewN _) bo.o (j+1) (by omega)) hs (by omega)).mono ?_;rintro e w5 ⟨p2,v2,k2,bad2,lg2,rfl,dJ,pg,kQ,cw,nT,o8,mQ⟩;have go:=(ce.drewN nd).setCell (b:=b) 1 (.int .i64 (j+1));have kM:mu n w.heap.size _ vs:=HN.o▸HI.o.but go bT;have kJ:w.heap.size<_:=Zj (by have:=HN.o;omega:w.heap.size<wr.heap.size) go.size;have gM:XX (w5.heap[b]?=O (aq s k2 (d+1) bad2 lg2)):=cw;clear cw;go_wp2_with fail;refine(Pm kM dJ ed rfl kJ kQ (by omega)).mono ?_;rintro e w6 ⟨rfl,cD,kS,kR⟩;have fk:w6.heap[b]?=O (aq s k2 (d+1) bad2 lg2):=(cD.block b (al gM.o) (by omega)).trans gM.o;have jX:ab b w w6:=by
       have h1:=(ar.trans go).trans dJ;exact⟨cD.os.trans h1.os,cD.tape.trans h1.tape,cD.output.trans h1.output,Zd h1.size cD.size,λi hi hn=>(cD.block i (Zj hi h1.size) (by omega)).trans (h1.block i hi hn)⟩
      have jp:N+1<=w6.heap.size:=by have:=go.size;have:=dJ.size;have:=cD.size;omega
      clear go kM kJ dJ cD kQ;cases dj:cZ n s (j+1) lgj with
      |error pp=>
       have hr:=mQ.o;rw[dj]at hr;have rv:bad2=(pp:Zf):=hr;subst rv;have HF:XX (R=.error pp):=HL.o.symm.trans (MK Ay.o (Zk HC.o.symm) (by exact dj));clear hr dj mQ o8 pg kR nT;go_wp2_with (go_at_call 79;refine(rm b s k2 (d+1) _ lg2 _ (by exact fk) (by omega)).mono ?_;rintro e w7 ⟨rfl,dK,gm⟩)
       go_roundg 0
       case measure=>omega
       case rel=>
        refine⟨jX.trans dK,Zd jp dK.size,Zk ⟨Zc,k2,pp,lg2,rfl,HF.o,gm,?_⟩⟩;obtain⟨a1,a2,a3,a4,a5,a6,hv⟩:=kS;exact⟨a1,a2,a3,a4,a5,a6,(dK.block N (by omega) (by intro e;injection e;omega)).trans (by rw[HN.o];exact hv)⟩
      |ok rr=>
       have hr:=mQ.o;rw[dj]at hr;obtain⟨ae,ah,ap,aB⟩:bad2=-1/\v2=rr.1/\k2=rr.2.1/\lg2=rr.2.2:=hr;subst ae;have kN:=o8.o (by omega);have HF:XX (gH (cZ n s) s f Zc (ak s k2) lg2 (vs++[v2])=R):=by
        show _=_;rw[<-HL.o,ML (v:=v2) (k2:=k2) (lg2:=lg2) Ay.o (Zk HC.o.symm) (by rw[ah,ap,aB];exact dj)]
       have ym:XX (mu n w.heap.size w6 (vs++[v2])):=kR.o v2 (pg.o (by omega));clear dj mQ o8 pg kR ah ap aB nT kS;go_wp2_with (go_at_call 79;refine(rn b s k2 (d+1) lg2 _ (by exact fk) hs).mono ?_;rintro e w7 ⟨rfl,dK,gm⟩)
       have eQ:=fJ s k2;have zv:=yq.o;simp at zv;go_roundg f
       case measure=>omega
       case rel=>
        refine⟨jX.trans dK,Zd jp dK.size,Zl ⟨Zc,ak s k2,lg2,vs++[v2],rfl,by omega,iH s k2 kN.2,by simp;omega,by rw[Zw];simp;omega,HF.o,gm,?_⟩⟩;exact(HN.o▸ym.o:mu n N w6 (vs++[v2])).but dK bT
     .have ac7:(c != 44)=Zi:=by rw[bne_iff_ne];exact h44
      have HF:XX (R=.error j):=HL.o.symm.trans (MJ Ay.o (by rw[<-HC.o];exact h44));clear h44;go_wp2_with (first
       |(go_at_call 174;refine(xV b s j (d+1) (-1) lgj 93 _ (by exact aY.o) nM.o (by omega) (by omega)).mono ?_;rintro e w2 ⟨rfl,ce,dc⟩;have bo:XX (w2.heap[b]?=O (aq s j (d+1) (-1) lgj)):=dc;clear dc)
       |(go_at_call 121;refine(dC b s j (d+1) (-1) lgj _ (by exact bo.o)).mono ?_;rintro e w3 ⟨rfl,nd,rfl⟩;rw[ct,<-HC.o])
       |(go_at_call 129;refine(ug b s j (d+1) lgj _ (by exact bo.o)).mono ?_;rintro e w4 ⟨rfl,eb,de⟩;obtain⟨q0,q1,q2,q3,q4,qf⟩:=fS de;have bq:XX (w4.heap[b]?=O (aq s j (d+1) j lgj)):=de;clear de q0 q1 q3 q4))
      go_ret;have vB:=((ce.drewN _).trans eb).setCell (b:=b) 2 (.int .i64 d);have vG:=HI.o.but vB bT;refine⟨.pointer (O ⟨N,0,Ze⟩),VT.list vs,j,j,lgj,?_,ar.trans vB,λh=>Zo h (by omega),?_,xQ bq.o d,by omega,λh=>Zo h (by omega),?_⟩
      .rw[HN.o];rfl
      .rw[<-HN.o];exact vG.ptr
      .show lk _ _ _ _ _;rw[lU.o,HF.o];rfl
    .go_wp2_with (first
      |(go_at_call 174;refine(xV b s j (d+1) (-1) lgj 93 _ (by exact aY.o) nM.o (by omega) (by omega)).mono ?_;rintro e w2 ⟨rfl,ce,dc⟩;have bo:XX (w2.heap[b]?=O (aq s j (d+1) (-1) lgj)):=dc;clear dc))
     refine(HV.o b s j (d+1) lgj _ wJ.o (by omega) (by exact bo.o) hs (by omega)).mono ?_;rintro e w5 ⟨p2,v2,k2,bad2,lg2,rfl,dJ,pg,kQ,cw,nT,o8,mQ⟩;have go:=ce;have kM:mu n w.heap.size _ vs:=HN.o▸HI.o.but go bT;have kJ:w.heap.size<_:=Zj (by have:=HN.o;omega:w.heap.size<wr.heap.size) go.size;have gM:XX (w5.heap[b]?=O (aq s k2 (d+1) bad2 lg2)):=cw;clear cw;go_wp2_with fail;refine(Pm kM dJ ed rfl kJ kQ (by omega)).mono ?_;rintro e w6 ⟨rfl,cD,kS,kR⟩;have fk:w6.heap[b]?=O (aq s k2 (d+1) bad2 lg2):=(cD.block b (al gM.o) (by omega)).trans gM.o;have jX:ab b w w6:=by
      have h1:=(ar.trans go).trans dJ;exact⟨cD.os.trans h1.os,cD.tape.trans h1.tape,cD.output.trans h1.output,Zd h1.size cD.size,λi hi hn=>(cD.block i (Zj hi h1.size) (by omega)).trans (h1.block i hi hn)⟩
     have jp:N+1<=w6.heap.size:=by have:=go.size;have:=dJ.size;have:=cD.size;omega
     clear go kM kJ dJ cD kQ;cases dj:cZ n s j lgj with
     |error pp=>
      have hr:=mQ.o;rw[dj]at hr;have rv:bad2=(pp:Zf):=hr;subst rv;have HF:XX (R=.error pp):=HL.o.symm.trans (MK Ay.o (Zl rfl) (by exact dj));clear hr dj mQ o8 pg kR nT;go_wp2_with (go_at_call 79;refine(rm b s k2 (d+1) _ lg2 _ (by exact fk) (by omega)).mono ?_;rintro e w7 ⟨rfl,dK,gm⟩)
      go_roundg 0
      case measure=>omega
      case rel=>
       refine⟨jX.trans dK,Zd jp dK.size,Zk ⟨Zc,k2,pp,lg2,rfl,HF.o,gm,?_⟩⟩;obtain⟨a1,a2,a3,a4,a5,a6,hv⟩:=kS;exact⟨a1,a2,a3,a4,a5,a6,(dK.block N (by omega) (by intro e;injection e;omega)).trans (by rw[HN.o];exact hv)⟩
     |ok rr=>
      have hr:=mQ.o;rw[dj]at hr;obtain⟨ae,ah,ap,aB⟩:bad2=-1/\v2=rr.1/\k2=rr.2.1/\lg2=rr.2.2:=hr;subst ae;have kN:=o8.o (by omega);have HF:XX (gH (cZ n s) s f Zc (ak s k2) lg2 (vs++[v2])=R):=by
       show _=_;rw[<-HL.o,ML (v:=v2) (k2:=k2) (lg2:=lg2) Ay.o (Zl rfl) (by rw[ah,ap,aB];exact dj)]
      have ym:XX (mu n w.heap.size w6 (vs++[v2])):=kR.o v2 (pg.o (by omega));clear dj mQ o8 pg kR ah ap aB nT kS;go_wp2_with (go_at_call 79;refine(rn b s k2 (d+1) lg2 _ (by exact fk) hs).mono ?_;rintro e w7 ⟨rfl,dK,gm⟩)
      have eQ:=fJ s k2;have zv:=yq.o;simp at zv;go_roundg f
      case measure=>omega
      case rel=>
       refine⟨jX.trans dK,Zd jp dK.size,Zl ⟨Zc,ak s k2,lg2,vs++[v2],rfl,by omega,iH s k2 kN.2,by simp;omega,by rw[Zw];simp;omega,HF.o,gm,?_⟩⟩;exact(HN.o▸ym.o:mu n N w6 (vs++[v2])).but dK bT
  .have AQ:XX (R=.error p):=pV;have aY:XX (wr.heap[b]?=O (aq s k' (d+1) (p:Za) lg')):=cd;obtain⟨g0,g1,g2,g3,g4,hf⟩:=fS cd;clear pV cd g0 g1 g4;go_wp2;go_ret;obtain⟨kind,kk,ss,l,ks,wt,nC⟩:=nC;refine⟨_,VT.list [],k',p,lg',rfl,ar.setCell _ _,λh=>Zo h (by omega),⟨N,_,_,_,_,_,_,?_,by rw[HN.o];exact Zu _,Hv nC (by omega) _⟩,?_,by omega,λh=>Zo h (by omega),?_⟩
   .rw[HN.o];rfl
   .exact xQ aY.o d
   .show lk _ _ _ _ _;rw[lU.o,AQ.o];rfl
def kC(n N:Za)(wr:World)(ks:Zb Zq)(vs:Zb (VT n)):Prop:=
 ∃l ksl wt ps,wr.heap[N]?=O (dq 111 0 ⟨#[]⟩ l ksl wt)/\ao wr 51 l ps/\ao wr 9 ksl (kv ks)/\(∀g,l.ownBlock=O g->N<g/\ksl.ownBlock≠O g)/\(∀g,ksl.ownBlock=O g->N<g)/\ks.length=vs.length /\
  bO (br n wr (λm=>N<m/\l.ownBlock≠O m/\ksl.ownBlock≠O m)) vs ps
theorem kC.but{vs:Zb (VT n)}(h:kC n N w ks vs)(hb:ab b w w')(bT:b<N):kC n N w' ks vs:=by
 obtain⟨l,ksl,wt,ps,h1,h2,h3,h4,h5,h6,h7⟩:=h;refine⟨l,ksl,wt,ps,?_,h2.kept (cI.of_but hb) (λk hk e=>by have:=h4 k hk;omega),h3.kept (cI.of_but hb) (λk hk e=>by have:=h5 k hk;omega),h4,h5,h6,A8 h7 (λk o hk ho=>⟨hb.block k (al ho) (by intro e;injection e;omega),hk⟩)⟩;exact(hb.block N (al h1) (by intro e;injection e;omega)).trans h1
theorem kC.ref{vs:Zb (VT n)}(h:kC n N w ks vs):br (n+1) w (λm=>N<=m) (VT.obj ks vs) (.pointer (O ⟨N,0,Ze⟩)):=by
 obtain⟨l,ksl,wt,ps,h1,h2,h3,h4,h5,h6,h7⟩:=h;exact⟨N,wt,l,ksl,ps,rfl,Zu _,h1,h2,h3,λg hg=>Zt (h4 g hg).1,λg hg=>Zt (h5 g hg),h6,h7.mono (λa b eA=>br.keep n eA (λk o hk _=>⟨rfl,Zt hk.1⟩))⟩
theorem kC.ptr{vs:Zb (VT n)}(h:kC n N w ks vs):ox w (λm=>N<=m) (.pointer (O ⟨N,0,Ze⟩)):=br.some1 (n+1) h.ref
theorem KW [DecidableEq K]:∀(ks:Zb K) (key:K),(∀j:Za,j<ks.length->ks[j]?≠O key)\/∃i:Za,(∀j:Za,j<i->ks[j]?≠O key)/\ks[i]?=O key
 |[],key=>Zl (λj hj=>by simp at hj)
 |k::ks,key=>by
  by_cases h:k=key
  .right;exact⟨0,λj hj=>by omega,by simp[h]⟩
  .rcases KW ks key with h1|⟨i,h1,h2⟩
   .left
    intro j hj;cases j with
    |zero=>simpa using h
    |succ j=>simpa using h1 j (by simpa using hj)
   .right
    refine⟨i+1,?_,by simpa using h2⟩;intro j hj;cases j with
    |zero=>simpa using h
    |succ j=>simpa using h1 j (by omega)
theorem IQ [DecidableEq K]:∀(ks:Zb K) (vs:Zb α) (k:K) (x:α),ks.length=vs.length->(jP ks k).length=(fB ks vs k x).length
 |[],[],k,x,_=>by simp[jP,fB]
 |k'::ks,v::vs,k,x,h=>by
  simp only[jP,fB];split
  .simpa using h
  .simp[IQ ks vs k x (by simpa using h)]
 |[],v::vs,k,x,h=>by simp at h
 |k'::ks,[],k,x,h=>by simp at h
theorem CD{vs:Zb (VT n)}(key:Zq)(mN:kC n N w ks vs)(hb:ab b w w2)(bT:b<N)(hM:M=w.heap.size)(hNM:N<M)(hp:ox w2 (λm=>M<=m) p2)(az:vs.length<=2000)(sV:key.size<=100000):
 Calls prog 176 #[.pointer (O ⟨N,0,Ze⟩),.string key,p2] w2 λe w3=>e=.returned (.tuple #[])/\cI (λk=>N<=k) w2 w3/\(∃kind k s l ks wt,w3.heap[N]?=O (dq kind k s l ks wt))/\XX (∀v2,br n w2 (λm=>M<=m) v2 p2->kC n N w3 (jP ks key) (fB ks vs key v2)):=by
 obtain⟨l,ksl,wt,ps,h1,h2,h3,h4,h5,h6,h7⟩:=mN.but hb bT;have aen:=mN;obtain⟨l0,ksl0,wt0,ps0,i1,i2,i3,i4,i5,i6,i7⟩:=aen;have he:dq 111 0 ⟨#[]⟩ l ksl wt=dq 111 0 ⟨#[]⟩ l0 ksl0 wt0:=by
  have:=(hb.block N (al i1) (by intro e;injection e;omega)).trans i1;rw[h1]at this;injection this
 have hel:l=l0/\ksl=ksl0:=by simp[dq]at he;exact⟨he.1,he.2.1⟩
 obtain⟨rfl,rfl⟩:=hel;obtain⟨m2,a1,a2,a3,a4,a5,a6,rfl,hA,hh⟩:=hp;have qK:∀g,l.ownBlock=O g->N<g/\g<M:=λg hg=>⟨(h4 g hg).1,by rw[hM];exact i2.lt hg⟩
 have BQ:∀g,ksl.ownBlock=O g->N<g/\g<M:=λg hg=>⟨h5 g hg,by rw[hM];exact i3.lt hg⟩
 have H9:ks.length=ps.length:=by rw[h6,h7.length]
 have Hg:M<=w2.heap.size:=by rw[hM];exact hb.size
 rcases KW ks key with dM|⟨i,dM,oK⟩
 .refine(ah0 N m2 111 0 ⟨#[]⟩ l ksl wt a1 a2 a3 a4 a5 a6 ps ks key w2 h1 hh (by omega) h2 h3 H9 (λg hg=>by have:=qK g hg;exact⟨by omega,by omega,(h4 g hg).2⟩) (λg hg=>by have:=BQ g hg;omega) (by rw[<-h7.length];exact az) sV dM).mono ?_;rintro e w3 ⟨rfl,l',ksl',wt',r1,r2,r3,r4,r5,r6⟩;refine⟨rfl,r6.mono (λi _ h=>?_),⟨_,_,_,_,_,_,r1⟩,?_⟩
  .rcases h with h|h|h
   .omega
   .have:=qK i h;omega
   .have:=BQ i h;omega
  .intro v2 cH;have pd:=Nr ks ps key (.pointer (O ⟨m2,0,Ze⟩)) H9 dM;have key2:∀k o,(N<k/\l.ownBlock≠O k/\ksl.ownBlock≠O k)->w2.heap[k]?=O o->w3.heap[k]?=w2.heap[k]?/\(N<k/\l'.ownBlock≠O k/\ksl'.ownBlock≠O k):=by
    intro k o ⟨q1,q2,q3⟩ ho;have hk:=al ho;refine⟨r6.block k hk (by rintro(h|h|h) <;> first|omega|exact q2 h|exact q3 h),q1,?_,?_⟩
    .intro e;rcases(r4 k e).1 with h|h
     .exact q2 h
     .omega
    .intro e;rcases r5 k e with h|h
     .exact q3 h
     .omega
   refine⟨l',ksl',wt',fB ks ps key (.pointer (O ⟨m2,0,Ze⟩)),r1,by rw[pd.1];exact r2,by rw[pd.2];exact r3,?_,?_,IQ ks vs key v2 h6,bO.put (br.keep n cH ?_) key h6 (A8 h7 key2)⟩
   .intro g hg;refine⟨?_,(r4 g hg).2⟩;rcases(r4 g hg).1 with h|h
    .exact(qK g h).1
    .omega
   .intro g hg;rcases r5 g hg with h|h
    .exact(BQ g h).1
    .omega
   .intro k o hk ho;exact key2 k o ⟨by omega,λe=>by have:=qK k e;omega,λe=>by have:=BQ k e;omega⟩ ho
 .have adA:∀p∈ps,Pl w2 p:=by
   intro p hp;obtain⟨v,hv⟩:=h7.mem p hp;obtain⟨m,b1,b2,b3,b4,b5,b6,e1,e2,e3⟩:=br.some1 n hv;exact⟨m,b1,b2,b3,b4,b5,b6,e1,e3⟩
  refine(ahZ N m2 111 0 ⟨#[]⟩ l ksl wt a1 a2 a3 a4 a5 a6 ps ks key i w2 h1 hh (by omega) h2 h3 H9 (λg hg=>by have:=qK g hg;exact⟨by omega,by omega,(h4 g hg).2⟩) (λg hg=>by have:=BQ g hg;omega) (by rw[<-h7.length];exact az) adA dM oK).mono ?_;rintro e w3 ⟨rfl,wt',r1,r2,r3,r6⟩;refine⟨rfl,r6.mono (λi _ h=>?_),⟨_,_,_,_,_,_,r1⟩,?_⟩
  .rcases h with h|h
   .omega
   .have:=qK i h;omega
  .intro v2 cH;have pd:=Nq ks ps key (.pointer (O ⟨m2,0,Ze⟩)) i H9 dM oK;have key2:∀k o,(N<k/\l.ownBlock≠O k/\ksl.ownBlock≠O k)->w2.heap[k]?=O o->w3.heap[k]?=w2.heap[k]?/\(N<k/\l.ownBlock≠O k/\ksl.ownBlock≠O k):=by
    intro k o ⟨q1,q2,q3⟩ ho;exact⟨r6.block k (al ho) (by rintro(h|h) <;> first|omega|exact q2 h),q1,q2,q3⟩
   refine⟨l,ksl,wt',fB ks ps key (.pointer (O ⟨m2,0,Ze⟩)),r1,by rw[pd.1];exact r2,by rw[pd.2];exact r3,h4,h5,IQ ks vs key v2 h6,bO.put (br.keep n cH ?_) key h6 (A8 h7 key2)⟩;intro k o hk ho;exact key2 k o ⟨by omega,λe=>by have:=qK k e;omega,λe=>by have:=BQ k e;omega⟩ ho
theorem TI{item:Za->Zg->Zm Za (α×Za×Zg)}{vs:Zb α}(h:gb s k=125):f8 item s (f+1) fst k lg ks vs=.ok ((ks,vs),k+1,lg):=by rw[f8,Zp h]
theorem M0{item:Za->Zg->Zm Za (α×Za×Zg)}{vs:Zb α}(h:gb s k≠125)(h2:gb s k≠44):f8 item s (f+1) Zc k lg ks vs=.error k:=by rw[f8,Zh h,Zp ⟨rfl,h2⟩]
theorem IM{item:Za->Zg->Zm Za (α×Za×Zg)}{vs:Zb α}(h:gb s k≠125)(h2:fst=Zi\/gb s k=44)(h0:k0=ak s (if fst then k else k+1))(ht:aw s k0=t)(hb:0<=t.2.2):
 f8 item s (f+1) fst k lg ks vs=.error t.2.2.toNat:=by
 rw[f8,Zh h,Zh (by rcases h2 with h2|h2 <;> simp[h2]),<-h0,ht];simp only;rw[Zp hb]
theorem M1{item:Za->Zg->Zm Za (α×Za×Zg)}{vs:Zb α}(h:gb s k≠125)(h2:fst=Zi\/gb s k=44)(h0:k0=ak s (if fst then k else k+1))(ht:aw s k0=t)(hb:t.2.2<0)(hc:gb s (ak s t.2.1)≠58):
 f8 item s (f+1) fst k lg ks vs=.error (ak s t.2.1):=by
 rw[f8,Zh h,Zh (by rcases h2 with h2|h2 <;> simp[h2]),<-h0,ht];simp only;rw[Zh (by omega),Zp hc]
theorem M2{item:Za->Zg->Zm Za (α×Za×Zg)}{vs:Zb α}{p:Za}(h:gb s k≠125)(h2:fst=Zi\/gb s k=44)(h0:k0=ak s (if fst then k else k+1))(ht:aw s k0=t)(hb:t.2.2<0)(hc:gb s (ak s t.2.1)=58)(hi:item (ak s t.2.1+1) lg=.error p):
 f8 item s (f+1) fst k lg ks vs=.error p:=by
 rw[f8,Zh h,Zh (by rcases h2 with h2|h2 <;> simp[h2]),<-h0,ht];simp only;rw[Zh (by omega),Zh (by omega),hi]
theorem M3{item:Za->Zg->Zm Za (α×Za×Zg)}{vs:Zb α}{v:α}{k2:Za}{lg2:Zg}(h:gb s k≠125)(h2:fst=Zi\/gb s k=44)(h0:k0=ak s (if fst then k else k+1))(ht:aw s k0=t)(hb:t.2.2<0)(hc:gb s (ak s t.2.1)=58)(hi:item (ak s t.2.1+1) lg=.ok (v,k2,lg2)):
 f8 item s (f+1) fst k lg ks vs=f8 item s f Zc (ak s k2) lg2 (jP ks ⟨t.1.toArray⟩) (fB ks vs ⟨t.1.toArray⟩ v):=by
 rw[f8,Zh h,Zh (by rcases h2 with h2|h2 <;> simp[h2]),<-h0,ht];simp only;rw[Zh (by omega),Zh (by omega),hi]
theorem IR [DecidableEq K]:∀(ks:Zb K) (vs:Zb α) (k:K) (x:α),(fB ks vs k x).length<=vs.length+1
 |[],vs,k,x=>by simp[fB]
 |k'::ks,[],k,x=>by simp[fB]
 |k'::ks,v::vs,k,x=>by
  simp only[fB];split
  .simp
  .have:=IR ks vs k x;simp;omega
theorem ail{R:Zm Za ((Zb Zq×Zb (VT n))×Za×Zg)}(h:R=f8 (cZ n s) s (s.size+1) Zi (ak s (k+1)) lg [] []):qz (n+1) s k lg Zi=R.map λr=>(VT.obj r.1.1 r.1.2,r.2):=by
 rw[h];rfl
theorem aba(n:Za)(hval:A7 n)(b:Za)(s:Zq)(k:Za)(d:Zf)(lg:Zg)(w:World)(hd:d+((n+1:Za):Zf)=12)(cy:0<=d)(hb:w.heap[b]?=O (aq s k d (-1) lg))(hs:s.size<=1000)(hk:k<s.size):
 Calls prog 122 #[.pointer (O ⟨b,0,Ze⟩),.bool Zi] w λe w'=>∃p v k' bad' lg',e=.returned p/\ab b w w'/\XX (bad'<0->br (n+1) w' (λm=>w.heap.size<=m) v p)/\ox w' (λm=>w.heap.size<=m) p/\w'.heap[b]?=O (aq s k' d bad' lg')/\-1<=bad'/\XX (bad'<0->k<=k'/\k'<=s.size)/\XX (lk (qz (n+1) s k lg Zi) v k' bad' lg'):=by
 obtain⟨g0,g1,g2,g3,g4,hf⟩:=fS hb;have BG:(d==12)=Zc:=Zx.2 (by omega);have LI:d<=11:=by omega
 have HB:XX (w.heap[b]?=O (aq s k d (-1) lg)):=hb;have ed:=al hb;obtain⟨N,hN⟩:∃N,N=w.heap.size:=⟨_,rfl⟩
 have HN:XX (N=w.heap.size):=hN;have bT:b<N:=by omega
 have HV:XX (A7 n):=hval;obtain⟨R,hR⟩:∃R,R=f8 (cZ n s) s (s.size+1) Zi (ak s (k+1)) lg [] []:=⟨_,rfl⟩
 have lU:XX (qz (n+1) s k lg Zi=R.map λr=>(VT.obj r.1.1 r.1.2,r.2)):=ail hR;have HR:XX (f8 (cZ n s) s (s.size+1) Zi (ak s (k+1)) lg [] []=R):=hR.symm;have wJ:XX (d+1+(n:Zf)=12):=by show _=_;omega
 clear hb g0 g3 g4 hval hR hd hN;go_enter func122,ntmps122;go_wp2_with (go_at_call 79;refine(rn b s (k+1) (d+1) lg _ (by exact cj (xQ (ml HB.o (k+1) (by omega)) _)) hs).mono ?_;rintro e w1 ⟨rfl,dG,eP⟩)
 have vA:ab b w w1:=((((ab.refl b w).setCell _ _).setCell _ _).alloc _).trans dG;have io:N+1<=w1.heap.size:=by have:=dG.size;simp[Zr]at this;have:=HN.o;omega
 have EV:kC n N w1 [] []:=by
  refine⟨eE,eE,1,[],?_,ao.nil _ _,ao.nil _ _,λg hg=>by simp[eE,Zv]at hg,λg hg=>by simp[eE,Zv]at hg,rfl,trivial⟩;refine(dG.block N (by simp[Zr];have:=HN.o;omega) (by intro e;injection e;omega)).trans ?_;exact aE (by simp[Zr];exact HN.o.symm)
 have xw:k<ak s (k+1):=fJ s (k+1);have l8:ak s (k+1)<=s.size:=iH s (k+1) (by omega);clear dG g1 g2 hf;go_loopg [7] (s.size+1) (λg fv wr=>ab b w wr/\N+1<=wr.heap.size/\((∃fst j lgj ks vs,fv=.bool fst/\k<j/\j<=s.size/\(if fst then s.size+1 else s.size)<j+g/\vs.length+g<=s.size+1/\f8 (cZ n s) s g fst j lgj ks vs=R/\wr.heap[b]?=O (aq s j (d+1) (-1) lgj)/\kC n N wr ks vs) \/
  (∃fst k' p lg',fv=.bool fst/\R=.error p/\wr.heap[b]?=O (aq s k' (d+1) (p:Za) lg')/\∃kind kk ss l ks wt,wr.heap[N]?=O (dq kind kk ss l ks wt))))
 case atStart=>exact⟨vA,io,Zl ⟨Zi,ak s (k+1),lg,[],[],rfl,xw,l8,by rw[Zp rfl];omega,by simp,HR.o,eP,EV⟩⟩
 case round=>
  obtain⟨ar,aH,zE⟩:=hrel;clear vA io EV eP xw l8 HR;rcases zE with⟨fst,j,lgj,ks,vs,rfl,L0,hj,jM,oJ,hL,cd,mN⟩|⟨fst,k',p,lg',rfl,pV,cd,nC⟩
  .have aer:s.size<j+gk:=by split at jM <;> omega
   obtain⟨f,rfl⟩:∃f,gk=f+1:=⟨gk-1,by omega⟩
   have yq:XX ((if fst then s.size+1 else s.size)<j+(f+1)):=jM;clear jM;have HL:XX (f8 (cZ n s) s (f+1) fst j lgj ks vs=R):=hL;have aY:XX (wr.heap[b]?=O (aq s j (d+1) (-1) lgj)):=cd;have HI:XX (kC n N wr ks vs):=mN;obtain⟨g0,g1,g2,g3,g4,hf⟩:=fS cd;obtain⟨c,hc⟩:∃c,c=gb s j:=⟨_,rfl⟩
   have bF:=iN s j;rw[<-hc]at bF;have HC:XX (c=gb s j):=hc;clear hL cd mN hc g0 g1 g2 g4;by_cases h125:c=125
   .subst h125;have nu:j<s.size:=cC (by rw[<-HC.o];omega);have HF:XX (R=.ok ((ks,vs),j+1,lgj)):=HL.o.symm.trans (TI HC.o.symm);clear hf;cases fst
    all_goals
     go_wp2_with (go_at_call 174;refine(I4 b s j (d+1) (-1) lgj 125 _ (by exact aY.o) (by rw[ct,<-HC.o]) (by omega) (by omega)).mono ?_;rintro e w2 ⟨rfl,ce,dc⟩;obtain⟨q0,q1,q2,q3,q4,qf⟩:=fS dc;have bo:XX (w2.heap[b]?=O (aq s (j+1) (d+1) (-1) lgj)):=dc;clear dc q0 q1 q3 q4)
     go_ret;have vG:kC n N (w2.setCell ⟨b,2,Ze⟩ (.int .i64 d)) ks vs:=(HI.o.but ce bT).but ((ab.refl b w2).setCell _ _) bT;refine⟨.pointer (O ⟨N,0,Ze⟩),VT.obj ks vs,j+1,-1,lgj,?_,(ar.trans ce).setCell _ _,λ_=>?_,?_,xQ bo.o d,by omega,λ_=>⟨by omega,by omega⟩,?_⟩
     .rw[HN.o];rfl
     .rw[<-HN.o];exact vG.ref
     .rw[<-HN.o];exact vG.ptr
     .show lk _ _ _ _ _;rw[lU.o,HF.o];exact⟨rfl,rfl,rfl,rfl⟩
   .have tF:XX (gb s j≠125):=by show _≠_;rw[<-HC.o];exact h125
    have nM:XX (cv s j (-1)≠125):=by show _≠_;rw[ct];exact tF.o
    clear h125;cases fst
    .by_cases h44:c=44
     .subst h44;have nu:j<s.size:=cC (by rw[<-HC.o];omega);go_wp2_with (first
       |(go_at_call 174;refine(xV b s j (d+1) (-1) lgj 125 _ (by exact aY.o) nM.o (by omega) (by omega)).mono ?_;rintro e w2 ⟨rfl,ce,dc⟩;obtain⟨q0,q1,q2,q3,q4,qf⟩:=fS dc;have bo:XX (w2.heap[b]?=O (aq s j (d+1) (-1) lgj)):=dc;clear dc q0 q2 q3 q4)
       |(go_at_call 121;refine(dC b s j (d+1) (-1) lgj _ (by exact bo.o)).mono ?_;rintro e w3 ⟨rfl,nd,rfl⟩;rw[ct,<-HC.o]))
      refine(rn b s (j+1) (d+1) lgj _ (by exact ml (w:=w2.drewN _) bo.o (j+1) (by omega)) hs).mono ?_;rintro e w4 ⟨rfl,eb,de⟩;have EE:=(ce.drewN nd).setCell (b:=b) 1 (.int .i64 (j+1));obtain⟨k0,fe⟩:∃k0,k0=ak s (j+1):=⟨_,rfl⟩
      rw[<-fe]at de;have LZ:k0<=s.size:=by rw[fe];exact iH s _ (by omega)
      have aeu:j<=k0:=by rw[fe];exact Zd (by omega) (fJ s _)
      have oq:XX (k0=ak s (j+1)):=fe;have bq:XX (w4.heap[b]?=O (aq s k0 (d+1) (-1) lgj)):=de;have EF:=EE.trans eb;clear de fe eb EE;go_wp2_with fail;refine(I9 b s k0 (d+1) lgj _ (by exact bq.o) hs).mono ?_;rintro e w41 ⟨rfl,ED,zm⟩;have vC:=EF.trans ED;have Cg:=N2 s k0;have iE:=An LZ;have mh:=N3 s k0;have vT:(aw s k0).2.2<0->(aw s k0).2.2=-1:=N4;obtain⟨kt,bt,lJ⟩:∃kt bt,((aw s k0).2.1,(aw s k0).2.2)=(kt,bt):=⟨_,_,rfl⟩
      simp only[Zn]at lJ;rw[lJ.1,lJ.2]at zm;rw[lJ.2]at Cg iE vT;rw[lJ.1]at iE mh;have qn:XX ((aw s k0).2.1=kt):=lJ.1;have sj:XX ((aw s k0).2.2=bt):=lJ.2;have C7:XX (w41.heap[b]?=O (aq s kt (d+1) bt lgj)):=zm;clear zm lJ EF ED;by_cases aM:0<=bt
      .have HF:XX (R=.error bt.toNat):=by
        show _=_;rw[<-HL.o,IM (t:=aw s k0) tF.o (Zk HC.o.symm) (by rw[oq.o];rfl) rfl (by rw[sj.o];exact aM),sj.o]
       clear iE vT mh;go_wp2_with (go_at_call 79;refine(rm b s kt (d+1) bt lgj _ (by exact C7.o) aM).mono ?_;rintro e w42 ⟨rfl,sN,qE⟩)
       refine(uJ b s _ kt (d+1) bt lgj _ (by exact qE) hs (by omega) (by decide)).mono ?_;rintro e w43 ⟨kw,bw,rfl,sO,vz,lM,zo⟩;have nZ:aQ s kt bt [58]=(kt,bt):=by simp only[aQ];rw[ro s kt aM,Zh (by decide),xd kt aM]
       have oa:(kw,bw)=(kt,bt):=lM.o.symm.trans nZ;simp only[Zn]at oa;obtain⟨rfl,rfl⟩:=oa;have nU:=(vC.trans sN).trans sO;clear lM nZ sN sO qE vC;go_wp2_with fail;refine(Ji b s kw (d+1) _ lgj _ (by exact vz) (by omega)).mono ?_;rintro e w5 ⟨m5,rfl,oI,dJ,cw,sM⟩;have go:=nU;have kM:kC n w.heap.size _ ks vs:=HN.o▸HI.o.but go bT;have kJ:w.heap.size<_:=Zj (by have:=HN.o;omega:w.heap.size<wr.heap.size) go.size;have kQ:ox w5 (λm=>_<=m) (.pointer (O ⟨m5,0,Ze⟩)):=⟨m5,_,_,_,_,_,_,rfl,oI,sM⟩
       go_wp2_with fail;refine(CD _ kM dJ ed rfl kJ kQ (by omega) (wA hs)).mono ?_;rintro e w6 ⟨rfl,cD,kS,kR⟩;have fk:=(cD.block b (al cw) (by omega)).trans cw;have jX:ab b w w6:=by
        have h1:=(ar.trans go).trans dJ;exact⟨cD.os.trans h1.os,cD.tape.trans h1.tape,cD.output.trans h1.output,Zd h1.size cD.size,λi hi hn=>(cD.block i (Zj hi h1.size) (by omega)).trans (h1.block i hi hn)⟩
       have jp:N+1<=w6.heap.size:=by have:=go.size;have:=dJ.size;have:=cD.size;omega
       have aV:XX (∃kind k s l ks wt,w6.heap[w.heap.size]?=O (dq kind k s l ks wt)):=kS;clear go kM kJ dJ cD kQ kR cw sM oI kS;go_wp2_with (go_at_call 79;refine(rm b s kw (d+1) _ lgj _ (by exact fk) (by omega)).mono ?_;rintro e w7 ⟨rfl,dK,gm⟩)
       go_roundg 0
       case measure=>omega
       case rel=>
        obtain⟨a1,a2,a3,a4,a5,a6,hv⟩:=aV.o;refine⟨jX.trans dK,Zd jp dK.size,Zk ⟨Zc,kw,bw.toNat,lgj,rfl,HF.o,(by rw[show((bw.toNat:Za):Zf)=bw by omega];exact gm),?_⟩⟩;exact⟨a1,a2,a3,a4,a5,a6,(dK.block N (by omega) (by intro e;injection e;omega)).trans (by rw[HN.o];exact hv)⟩
      .have Lz:bt=-1:=vT (by omega);subst Lz;have L1:=iE (by omega);clear Cg iE vT aM;go_wp2_with (go_at_call 79;refine(rn b s kt (d+1) lgj _ (by exact C7.o) hs).mono ?_;rintro e w42 ⟨rfl,sN,qE⟩)
       obtain⟨k1,dh⟩:∃k1,k1=ak s kt:=⟨_,rfl⟩
       rw[<-dh]at qE;have nw:k1<=s.size:=by rw[dh];exact iH s _ L1
       have aex:j<=k1:=by rw[dh];have:=fJ s kt;omega
       have gu:XX (k1=ak s kt):=dh;clear dh;refine(uJ b s _ k1 (d+1) (-1) lgj _ (by exact qE) hs (by omega) (by decide)).mono ?_;rintro e w43 ⟨kw,bw,rfl,sO,vz,lM,zo⟩;have nU:=(vC.trans sN).trans sO;clear sN sO qE vC;by_cases h58:gb s k1=58
       .have nZ:aQ s k1 (-1) [58]=(k1+1,-1):=by simp only[aQ];rw[ct,Zp (by rw[h58];rfl)]
        have oa:(kw,bw)=(k1+1,(-1:Zf)):=lM.o.symm.trans nZ;simp only[Zn]at oa;obtain⟨rfl,rfl⟩:=oa;have aew:k1<s.size:=cC (by omega);have uM:XX (gb s k1=58):=h58;clear lM nZ h58 zo;go_wp2_with fail;refine(HV.o b s (k1+1) (d+1) lgj _ wJ.o (by omega) (by exact vz) hs (by omega)).mono ?_;rintro e w5 ⟨p2,v2,k2,bad2,lg2,rfl,dJ,pg,kQ,cw,nT,o8,mQ⟩;have kM:kC n w.heap.size _ ks vs:=HN.o▸HI.o.but nU bT;have kJ:w.heap.size<_:=Zj (by have:=HN.o;omega:w.heap.size<wr.heap.size) nU.size;have gM:XX (w5.heap[b]?=O (aq s k2 (d+1) bad2 lg2)):=cw;clear cw;go_wp2_with fail;refine(CD _ kM dJ ed rfl kJ kQ (by omega) (wA hs)).mono ?_;rintro e w6 ⟨rfl,cD,kS,kR⟩;have fk:w6.heap[b]?=O (aq s k2 (d+1) bad2 lg2):=(cD.block b (al gM.o) (by omega)).trans gM.o;have jX:ab b w w6:=by
         have h1:=(ar.trans nU).trans dJ;exact⟨cD.os.trans h1.os,cD.tape.trans h1.tape,cD.output.trans h1.output,Zd h1.size cD.size,λi hi hn=>(cD.block i (Zj hi h1.size) (by omega)).trans (h1.block i hi hn)⟩
        have jp:N+1<=w6.heap.size:=by have:=nU.size;have:=dJ.size;have:=cD.size;omega
        clear nU kM kJ dJ cD kQ;cases dj:cZ n s (k1+1) lgj with
        |error pp=>
         have hr:=mQ.o;rw[dj]at hr;have rv:bad2=(pp:Zf):=hr;subst rv;have HF:XX (R=.error pp):=by
          show _=_;rw[<-HL.o];exact M2 (t:=aw s k0) tF.o (Zk HC.o.symm) (by rw[oq.o];rfl) rfl (by rw[sj.o];omega) (by rw[qn.o,<-gu.o];exact uM.o) (by rw[qn.o,<-gu.o];exact dj)
         clear hr dj mQ o8 pg kR nT;go_wp2_with (go_at_call 79;refine(rm b s k2 (d+1) _ lg2 _ (by exact fk) (by omega)).mono ?_;rintro e w7 ⟨rfl,dK,gm⟩)
         go_roundg 0
         case measure=>omega
         case rel=>
          refine⟨jX.trans dK,Zd jp dK.size,Zk ⟨Zc,k2,pp,lg2,rfl,HF.o,gm,?_⟩⟩;obtain⟨a1,a2,a3,a4,a5,a6,hv⟩:=kS;exact⟨a1,a2,a3,a4,a5,a6,(dK.block N (by omega) (by intro e;injection e;omega)).trans (by rw[HN.o];exact hv)⟩
        |ok rr=>
         have hr:=mQ.o;rw[dj]at hr;obtain⟨ae,ah,ap,aB⟩:bad2=-1/\v2=rr.1/\k2=rr.2.1/\lg2=rr.2.2:=hr;subst ae;have kN:=o8.o (by omega);have HF:XX (f8 (cZ n s) s f Zc (ak s k2) lg2 (jP ks ⟨(aw s k0).1.toArray⟩) (fB ks vs ⟨(aw s k0).1.toArray⟩ v2)=R):=by
          show _=_;rw[<-HL.o,M3 (t:=aw s k0) (v:=v2) (k2:=k2) (lg2:=lg2) tF.o (Zk HC.o.symm) (by rw[oq.o];rfl) rfl (by rw[sj.o];omega) (by rw[qn.o,<-gu.o];exact uM.o) (by rw[qn.o,<-gu.o,ah,ap,aB];exact dj)]
         have ym:XX (kC n w.heap.size w6 (jP ks ⟨(aw s k0).1.toArray⟩) (fB ks vs ⟨(aw s k0).1.toArray⟩ v2)):=kR.o v2 (pg.o (by omega));clear dj mQ o8 pg kR ah ap aB nT kS;go_wp2_with (go_at_call 79;refine(rn b s k2 (d+1) lg2 _ (by exact fk) hs).mono ?_;rintro e w7 ⟨rfl,dK,gm⟩)
         have eQ:=fJ s k2;have zv:=yq.o;simp at zv;have em:=IR ks vs ⟨(aw s k0).1.toArray⟩ v2;go_roundg f
         case measure=>omega
         case rel=>
          refine⟨jX.trans dK,Zd jp dK.size,Zl ⟨Zc,ak s k2,lg2,_,_,rfl,by omega,iH s k2 kN.2,by simp;omega,by omega,HF.o,gm,?_⟩⟩;exact(HN.o▸ym.o:kC n N w6 _ _).but dK bT
       .have nZ:aQ s k1 (-1) [58]=(k1,(k1:Zf)):=by simp only[aQ];rw[ct,Zh (by simpa using h58),rp]
        have oa:(kw,bw)=(k1,(k1:Zf)):=lM.o.symm.trans nZ;simp only[Zn]at oa;obtain⟨L3,LB⟩:=oa;subst L3;subst LB;have HF:XX (R=.error kw):=by
         show _=_;rw[<-HL.o,M1 (t:=aw s k0) tF.o (Zk HC.o.symm) (by rw[oq.o];rfl) rfl (by rw[sj.o];omega) (by rw[qn.o,<-gu.o];exact h58),qn.o,<-gu.o]
        clear lM nZ h58 zo;go_wp2_with fail;refine(Ji b s kw (d+1) _ lgj _ (by exact vz) (by omega)).mono ?_;rintro e w5 ⟨m5,rfl,oI,dJ,cw,sM⟩;have go:=nU;have kM:kC n w.heap.size _ ks vs:=HN.o▸HI.o.but go bT;have kJ:w.heap.size<_:=Zj (by have:=HN.o;omega:w.heap.size<wr.heap.size) go.size;have kQ:ox w5 (λm=>_<=m) (.pointer (O ⟨m5,0,Ze⟩)):=⟨m5,_,_,_,_,_,_,rfl,oI,sM⟩
        go_wp2_with fail;refine(CD _ kM dJ ed rfl kJ kQ (by omega) (wA hs)).mono ?_;rintro e w6 ⟨rfl,cD,kS,kR⟩;have fk:=(cD.block b (al cw) (by omega)).trans cw;have jX:ab b w w6:=by
         have h1:=(ar.trans go).trans dJ;exact⟨cD.os.trans h1.os,cD.tape.trans h1.tape,cD.output.trans h1.output,Zd h1.size cD.size,λi hi hn=>(cD.block i (Zj hi h1.size) (by omega)).trans (h1.block i hi hn)⟩
        have jp:N+1<=w6.heap.size:=by have:=go.size;have:=dJ.size;have:=cD.size;omega
        have aV:XX (∃kind k s l ks wt,w6.heap[w.heap.size]?=O (dq kind k s l ks wt)):=kS;clear go kM kJ dJ cD kQ kR cw sM oI kS;go_wp2_with (go_at_call 79;refine(rm b s kw (d+1) _ lgj _ (by exact fk) (by omega)).mono ?_;rintro e w7 ⟨rfl,dK,gm⟩)
        go_roundg 0
        case measure=>omega
        case rel=>
         obtain⟨a1,a2,a3,a4,a5,a6,hv⟩:=aV.o;refine⟨jX.trans dK,Zd jp dK.size,Zk ⟨Zc,kw,kw,lgj,rfl,HF.o,gm,?_⟩⟩;exact⟨a1,a2,a3,a4,a5,a6,(dK.block N (by omega) (by intro e;injection e;omega)).trans (by rw[HN.o];exact hv)⟩
     .have ac7:(c != 44)=Zi:=by rw[bne_iff_ne];exact h44
      have HF:XX (R=.error j):=HL.o.symm.trans (M0 tF.o (by rw[<-HC.o];exact h44));clear h44;go_wp2_with (first
       |(go_at_call 174;refine(xV b s j (d+1) (-1) lgj 125 _ (by exact aY.o) nM.o (by omega) (by omega)).mono ?_;rintro e w2 ⟨rfl,ce,dc⟩;have bo:XX (w2.heap[b]?=O (aq s j (d+1) (-1) lgj)):=dc;clear dc)
       |(go_at_call 121;refine(dC b s j (d+1) (-1) lgj _ (by exact bo.o)).mono ?_;rintro e w3 ⟨rfl,nd,rfl⟩;rw[ct,<-HC.o])
       |(go_at_call 129;refine(ug b s j (d+1) lgj _ (by exact bo.o)).mono ?_;rintro e w4 ⟨rfl,eb,de⟩;obtain⟨q0,q1,q2,q3,q4,qf⟩:=fS de;have bq:XX (w4.heap[b]?=O (aq s j (d+1) j lgj)):=de;clear de q0 q1 q3 q4))
      go_ret;have vB:=((ce.drewN _).trans eb).setCell (b:=b) 2 (.int .i64 d);have vG:=HI.o.but vB bT;refine⟨.pointer (O ⟨N,0,Ze⟩),VT.obj ks vs,j,j,lgj,?_,ar.trans vB,λh=>Zo h (by omega),?_,xQ bq.o d,by omega,λh=>Zo h (by omega),?_⟩
      .rw[HN.o];rfl
      .rw[<-HN.o];exact vG.ptr
      .show lk _ _ _ _ _;rw[lU.o,HF.o];rfl
    .go_wp2_with (first
      |(go_at_call 174;refine(xV b s j (d+1) (-1) lgj 125 _ (by exact aY.o) nM.o (by omega) (by omega)).mono ?_;rintro e w2 ⟨rfl,ce,dc⟩;have bo:XX (w2.heap[b]?=O (aq s j (d+1) (-1) lgj)):=dc;clear dc))
     refine(rn b s j (d+1) lgj _ (by exact bo.o) hs).mono ?_;rintro e w4 ⟨rfl,eb,de⟩;have EE:=ce;obtain⟨k0,fe⟩:∃k0,k0=ak s j:=⟨_,rfl⟩
     rw[<-fe]at de;have LZ:k0<=s.size:=by rw[fe];exact iH s _ (by omega)
     have aeu:j<=k0:=by rw[fe];exact Zd (by omega) (fJ s _)
     have oq:XX (k0=ak s j):=fe;have bq:XX (w4.heap[b]?=O (aq s k0 (d+1) (-1) lgj)):=de;have EF:=EE.trans eb;clear de fe eb EE;go_wp2_with fail;refine(I9 b s k0 (d+1) lgj _ (by exact bq.o) hs).mono ?_;rintro e w41 ⟨rfl,ED,zm⟩;have vC:=EF.trans ED;have Cg:=N2 s k0;have iE:=An LZ;have mh:=N3 s k0;have vT:(aw s k0).2.2<0->(aw s k0).2.2=-1:=N4;obtain⟨kt,bt,lJ⟩:∃kt bt,((aw s k0).2.1,(aw s k0).2.2)=(kt,bt):=⟨_,_,rfl⟩
     simp only[Zn]at lJ;rw[lJ.1,lJ.2]at zm;rw[lJ.2]at Cg iE vT;rw[lJ.1]at iE mh;have qn:XX ((aw s k0).2.1=kt):=lJ.1;have sj:XX ((aw s k0).2.2=bt):=lJ.2;have C7:XX (w41.heap[b]?=O (aq s kt (d+1) bt lgj)):=zm;clear zm lJ EF ED;by_cases aM:0<=bt
     .have HF:XX (R=.error bt.toNat):=by
       show _=_;rw[<-HL.o,IM (t:=aw s k0) tF.o (Zl rfl) (by rw[oq.o];rfl) rfl (by rw[sj.o];exact aM),sj.o]
      clear iE vT mh;go_wp2_with (go_at_call 79;refine(rm b s kt (d+1) bt lgj _ (by exact C7.o) aM).mono ?_;rintro e w42 ⟨rfl,sN,qE⟩)
      refine(uJ b s _ kt (d+1) bt lgj _ (by exact qE) hs (by omega) (by decide)).mono ?_;rintro e w43 ⟨kw,bw,rfl,sO,vz,lM,zo⟩;have nZ:aQ s kt bt [58]=(kt,bt):=by simp only[aQ];rw[ro s kt aM,Zh (by decide),xd kt aM]
      have oa:(kw,bw)=(kt,bt):=lM.o.symm.trans nZ;simp only[Zn]at oa;obtain⟨rfl,rfl⟩:=oa;have nU:=(vC.trans sN).trans sO;clear lM nZ sN sO qE vC;go_wp2_with fail;refine(Ji b s kw (d+1) _ lgj _ (by exact vz) (by omega)).mono ?_;rintro e w5 ⟨m5,rfl,oI,dJ,cw,sM⟩;have go:=nU;have kM:kC n w.heap.size _ ks vs:=HN.o▸HI.o.but go bT;have kJ:w.heap.size<_:=Zj (by have:=HN.o;omega:w.heap.size<wr.heap.size) go.size;have kQ:ox w5 (λm=>_<=m) (.pointer (O ⟨m5,0,Ze⟩)):=⟨m5,_,_,_,_,_,_,rfl,oI,sM⟩
      go_wp2_with fail;refine(CD _ kM dJ ed rfl kJ kQ (by omega) (wA hs)).mono ?_;rintro e w6 ⟨rfl,cD,kS,kR⟩;have fk:=(cD.block b (al cw) (by omega)).trans cw;have jX:ab b w w6:=by
       have h1:=(ar.trans go).trans dJ;exact⟨cD.os.trans h1.os,cD.tape.trans h1.tape,cD.output.trans h1.output,Zd h1.size cD.size,λi hi hn=>(cD.block i (Zj hi h1.size) (by omega)).trans (h1.block i hi hn)⟩
      have jp:N+1<=w6.heap.size:=by have:=go.size;have:=dJ.size;have:=cD.size;omega
      have aV:XX (∃kind k s l ks wt,w6.heap[w.heap.size]?=O (dq kind k s l ks wt)):=kS;clear go kM kJ dJ cD kQ kR cw sM oI kS;go_wp2_with (go_at_call 79;refine(rm b s kw (d+1) _ lgj _ (by exact fk) (by omega)).mono ?_;rintro e w7 ⟨rfl,dK,gm⟩)
      go_roundg 0
      case measure=>omega
      case rel=>
       obtain⟨a1,a2,a3,a4,a5,a6,hv⟩:=aV.o;refine⟨jX.trans dK,Zd jp dK.size,Zk ⟨Zc,kw,bw.toNat,lgj,rfl,HF.o,(by rw[show((bw.toNat:Za):Zf)=bw by omega];exact gm),?_⟩⟩;exact⟨a1,a2,a3,a4,a5,a6,(dK.block N (by omega) (by intro e;injection e;omega)).trans (by rw[HN.o];exact hv)⟩
     .have Lz:bt=-1:=vT (by omega);subst Lz;have L1:=iE (by omega);clear Cg iE vT aM;go_wp2_with (go_at_call 79;refine(rn b s kt (d+1) lgj _ (by exact C7.o) hs).mono ?_;rintro e w42 ⟨rfl,sN,qE⟩)
      obtain⟨k1,dh⟩:∃k1,k1=ak s kt:=⟨_,rfl⟩
      rw[<-dh]at qE;have nw:k1<=s.size:=by rw[dh];exact iH s _ L1
      have aex:j<=k1:=by rw[dh];have:=fJ s kt;omega
      have gu:XX (k1=ak s kt):=dh;clear dh;refine(uJ b s _ k1 (d+1) (-1) lgj _ (by exact qE) hs (by omega) (by decide)).mono ?_;rintro e w43 ⟨kw,bw,rfl,sO,vz,lM,zo⟩;have nU:=(vC.trans sN).trans sO;clear sN sO qE vC;by_cases h58:gb s k1=58
      .have nZ:aQ s k1 (-1) [58]=(k1+1,-1):=by simp only[aQ];rw[ct,Zp (by rw[h58];rfl)]
       have oa:(kw,bw)=(k1+1,(-1:Zf)):=lM.o.symm.trans nZ;simp only[Zn]at oa;obtain⟨rfl,rfl⟩:=oa;have aew:k1<s.size:=cC (by omega);have uM:XX (gb s k1=58):=h58;clear lM nZ h58 zo;go_wp2_with fail;refine(HV.o b s (k1+1) (d+1) lgj _ wJ.o (by omega) (by exact vz) hs (by omega)).mono ?_;rintro e w5 ⟨p2,v2,k2,bad2,lg2,rfl,dJ,pg,kQ,cw,nT,o8,mQ⟩;have kM:kC n w.heap.size _ ks vs:=HN.o▸HI.o.but nU bT;have kJ:w.heap.size<_:=Zj (by have:=HN.o;omega:w.heap.size<wr.heap.size) nU.size;have gM:XX (w5.heap[b]?=O (aq s k2 (d+1) bad2 lg2)):=cw;clear cw;go_wp2_with fail;refine(CD _ kM dJ ed rfl kJ kQ (by omega) (wA hs)).mono ?_;rintro e w6 ⟨rfl,cD,kS,kR⟩;have fk:w6.heap[b]?=O (aq s k2 (d+1) bad2 lg2):=(cD.block b (al gM.o) (by omega)).trans gM.o;have jX:ab b w w6:=by
        have h1:=(ar.trans nU).trans dJ;exact⟨cD.os.trans h1.os,cD.tape.trans h1.tape,cD.output.trans h1.output,Zd h1.size cD.size,λi hi hn=>(cD.block i (Zj hi h1.size) (by omega)).trans (h1.block i hi hn)⟩
       have jp:N+1<=w6.heap.size:=by have:=nU.size;have:=dJ.size;have:=cD.size;omega
       clear nU kM kJ dJ cD kQ;cases dj:cZ n s (k1+1) lgj with
       |error pp=>
        have hr:=mQ.o;rw[dj]at hr;have rv:bad2=(pp:Zf):=hr;subst rv;have HF:XX (R=.error pp):=by
         show _=_;rw[<-HL.o];exact M2 (t:=aw s k0) tF.o (Zl rfl) (by rw[oq.o];rfl) rfl (by rw[sj.o];omega) (by rw[qn.o,<-gu.o];exact uM.o) (by rw[qn.o,<-gu.o];exact dj)
        clear hr dj mQ o8 pg kR nT;go_wp2_with (go_at_call 79;refine(rm b s k2 (d+1) _ lg2 _ (by exact fk) (by omega)).mono ?_;rintro e w7 ⟨rfl,dK,gm⟩)
        go_roundg 0
        case measure=>omega
        case rel=>
         refine⟨jX.trans dK,Zd jp dK.size,Zk ⟨Zc,k2,pp,lg2,rfl,HF.o,gm,?_⟩⟩;obtain⟨a1,a2,a3,a4,a5,a6,hv⟩:=kS;exact⟨a1,a2,a3,a4,a5,a6,(dK.block N (by omega) (by intro e;injection e;omega)).trans (by rw[HN.o];exact hv)⟩
       |ok rr=>
        have hr:=mQ.o;rw[dj]at hr;obtain⟨ae,ah,ap,aB⟩:bad2=-1/\v2=rr.1/\k2=rr.2.1/\lg2=rr.2.2:=hr;subst ae;have kN:=o8.o (by omega);have HF:XX (f8 (cZ n s) s f Zc (ak s k2) lg2 (jP ks ⟨(aw s k0).1.toArray⟩) (fB ks vs ⟨(aw s k0).1.toArray⟩ v2)=R):=by
         show _=_;rw[<-HL.o,M3 (t:=aw s k0) (v:=v2) (k2:=k2) (lg2:=lg2) tF.o (Zl rfl) (by rw[oq.o];rfl) rfl (by rw[sj.o];omega) (by rw[qn.o,<-gu.o];exact uM.o) (by rw[qn.o,<-gu.o,ah,ap,aB];exact dj)]
        have ym:XX (kC n w.heap.size w6 (jP ks ⟨(aw s k0).1.toArray⟩) (fB ks vs ⟨(aw s k0).1.toArray⟩ v2)):=kR.o v2 (pg.o (by omega));clear dj mQ o8 pg kR ah ap aB nT kS;go_wp2_with (go_at_call 79;refine(rn b s k2 (d+1) lg2 _ (by exact fk) hs).mono ?_;rintro e w7 ⟨rfl,dK,gm⟩)
        have eQ:=fJ s k2;have zv:=yq.o;simp at zv;have em:=IR ks vs ⟨(aw s k0).1.toArray⟩ v2;go_roundg f
        case measure=>omega
        case rel=>
         refine⟨jX.trans dK,Zd jp dK.size,Zl ⟨Zc,ak s k2,lg2,_,_,rfl,by omega,iH s k2 kN.2,by simp;omega,by omega,HF.o,gm,?_⟩⟩;exact(HN.o▸ym.o:kC n N w6 _ _).but dK bT
      .have nZ:aQ s k1 (-1) [58]=(k1,(k1:Zf)):=by simp only[aQ];rw[ct,Zh (by simpa using h58),rp]
       have oa:(kw,bw)=(k1,(k1:Zf)):=lM.o.symm.trans nZ;simp only[Zn]at oa;obtain⟨L3,LB⟩:=oa;subst L3;subst LB;have HF:XX (R=.error kw):=by
        show _=_;rw[<-HL.o,M1 (t:=aw s k0) tF.o (Zl rfl) (by rw[oq.o];rfl) rfl (by rw[sj.o];omega) (by rw[qn.o,<-gu.o];exact h58),qn.o,<-gu.o]
       clear lM nZ h58 zo;go_wp2_with fail;refine(Ji b s kw (d+1) _ lgj _ (by exact vz) (by omega)).mono ?_;rintro e w5 ⟨m5,rfl,oI,dJ,cw,sM⟩;have go:=nU;have kM:kC n w.heap.size _ ks vs:=HN.o▸HI.o.but go bT;have kJ:w.heap.size<_:=Zj (by have:=HN.o;omega:w.heap.size<wr.heap.size) go.size;have kQ:ox w5 (λm=>_<=m) (.pointer (O ⟨m5,0,Ze⟩)):=⟨m5,_,_,_,_,_,_,rfl,oI,sM⟩
       go_wp2_with fail;refine(CD _ kM dJ ed rfl kJ kQ (by omega) (wA hs)).mono ?_;rintro e w6 ⟨rfl,cD,kS,kR⟩;have fk:=(cD.block b (al cw) (by omega)).trans cw;have jX:ab b w w6:=by
        have h1:=(ar.trans go).trans dJ;exact⟨cD.os.trans h1.os,cD.tape.trans h1.tape,cD.output.trans h1.output,Zd h1.size cD.size,λi hi hn=>(cD.block i (Zj hi h1.size) (by omega)).trans (h1.block i hi hn)⟩
       have jp:N+1<=w6.heap.size:=by have:=go.size;have:=dJ.size;have:=cD.size;omega
       have aV:XX (∃kind k s l ks wt,w6.heap[w.heap.size]?=O (dq kind k s l ks wt)):=kS;clear go kM kJ dJ cD kQ kR cw sM oI kS;go_wp2_with (go_at_call 79;refine(rm b s kw (d+1) _ lgj _ (by exact fk) (by omega)).mono ?_;rintro e w7 ⟨rfl,dK,gm⟩)
       go_roundg 0
       case measure=>omega
       case rel=>
        obtain⟨a1,a2,a3,a4,a5,a6,hv⟩:=aV.o;refine⟨jX.trans dK,Zd jp dK.size,Zk ⟨Zc,kw,kw,lgj,rfl,HF.o,gm,?_⟩⟩;exact⟨a1,a2,a3,a4,a5,a6,(dK.block N (by omega) (by intro e;injection e;omega)).trans (by rw[HN.o];exact hv)⟩
  .have AQ:XX (R=.error p):=pV;have aY:XX (wr.heap[b]?=O (aq s k' (d+1) (p:Za) lg')):=cd;obtain⟨g0,g1,g2,g3,g4,hf⟩:=fS cd;clear pV cd g0 g1 g4;go_wp2;go_ret;obtain⟨kind,kk,ss,l,ks,wt,nC⟩:=nC;refine⟨_,VT.obj [] [],k',p,lg',rfl,ar.setCell _ _,λh=>Zo h (by omega),⟨N,_,_,_,_,_,_,?_,by rw[HN.o];exact Zu _,Hv nC (by omega) _⟩,?_,by omega,λh=>Zo h (by omega),?_⟩
   .rw[HN.o];rfl
   .exact xQ aY.o d
   .show lk _ _ _ _ _;rw[lU.o,AQ.o];rfl
end Go.Proofs.YtdlgkgfeoiohiaaGreatDoor
