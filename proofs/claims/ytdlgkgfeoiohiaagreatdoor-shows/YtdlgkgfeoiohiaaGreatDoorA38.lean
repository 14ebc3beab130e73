/- Part 38. -/
import Derived.Test.YtdlgkgfeoiohiaaGreatDoorA36
import Derived.Test.YtdlgkgfeoiohiaaGreatDoorA37
open Bool renaming false -> Zn,true -> Zo,eq_false_iff -> ZG
open Go renaming Calls -> Zf,World -> Zj,Value -> Zl,Addr -> Zp,maxLen -> Zr
open Go.Addr renaming add_lit -> ZD
open Go.Calls renaming mono -> Zg
open Go.Lib.OthersKept renaming refl -> Zy
open Go.RowKit renaming Below -> Zb
open Go.RowKit.Below renaming refl -> Zt,heap_alloc -> ZE
open Go.Value renaming ownBlock -> ZN
open Go.World.ownsRow renaming cells -> ZO
open List renaming cons_ne_nil -> Zm,getElem?_eq_getElem -> Zu,length_cons -> Zv,nil_append -> Zw,getElem?_eq_some_iff -> Zz,length_append -> ZA,length_nil -> ZB,mem_cons_of_mem -> ZC,cons_append -> ZH,drop_eq_getElem_cons -> ZI,mem_append -> ZJ,mem_cons -> ZK
open Nat renaming le_trans -> Zx,lt_or_ge -> ZL,zero_add -> ZM
open Option renaming some -> O,none -> Zi
open _root_ renaming if_neg -> Za,if_pos -> Zc,List -> Zd,Nat -> Ze,Int -> Zh,ByteArray -> Zk,absurd -> Zq,beq_eq_false_iff_ne -> ZP
namespace Go.Proofs.YtdlgkgfeoiohiaaGreatDoor
set_option linter.unusedVariables false
set_option maxHeartbeats 16000000
set_option maxRecDepth 100000
open Go.RowKit J Go.Proofs.Tryz
variable {w:Zj}{s op u:Zk}{l:Zd Nd}{x v:Zl}{names:Zd Zk}{y:Nd}{n0 n1 n2:Zh}{i0 i1 i2:Bool}{n k a:Ze}{ps:Zd Zl}{AA B:Ze->Prop}
section
variable {T:Zd (aj×Ze)}
theorem Wc(hinn:yK T n):dW T (fA T (bV T n)) n 139:=by
 have fQ:dW T (fR T (bV T n)) n 244:=ale (ak7 hinn) (λn' e=>by subst e;exact alc hinn.2);have oC:∀n',n=n'+1->dW T (xa T n') n' 245:=λn' e=>by subst e;exact V7 hinn.2
 have ES:dW T (fx T (bV T n)) n 237:=akZ (λn' e=>by subst e;exact ak1 hinn.2) (λn' e=>by subst e;exact akU hinn.2) fQ;exact ala hinn (akX (akV (tn n) ES (alh hinn oC fQ)))
theorem V8(hinn:yK T n):dW T (fm T (bV T n) 3) n 26:=
 akY (ald (akP (Wc hinn) (Ag (tn n) 0)) (Ag (tn n) 1)) (Ag (tn n) 2)
theorem Mz:∀n,yK T n
 |0=>trivial
 |n+1=>⟨Wc (Mz n),V8 (Mz n)⟩
end
theorem Ks{W:Zj}{b:Ze}{y:Zl}{t:TypeId}(h:W.heap[b]?=O (.cells #[x,y] t (0,0))):W.cell? ⟨b,0,Zi⟩=O x/\W.cell? ⟨b,1,Zi⟩=O y:=by constructor <;> simp[Zj.cell?,h]
theorem Tt:∀(ks:Zd Zk) (xs:Zd Zl) {k:Ze} {s:Zk} {x:Zl},ks[k]?=O s->xs[k]?=O x->(mv ks xs)[k*2]?=O (.string s)/\(mv ks xs)[k*2+1]?=O x
 |[],xs,k,s,x,hs,_=>by simp at hs
 |a::ks,[],k,s,x,_,hx=>by simp at hx
 |a::ks,y::xs,0,s,x,hs,hx=>by
  simp at hs hx;subst hs;subst hx;exact⟨rfl,rfl⟩
 |a::ks,y::xs,k+1,s,x,hs,hx=>by
  have ih:=Tt ks xs (k:=k) (by simpa using hs) (by simpa using hx);rw[show(k+1)*2=k*2+1+1 by omega];exact ih
theorem oy.get{ks:Zd Zk}{xs:Zd Zl}(h:oy w v ks xs)(hs:ks[k]?=O s)(hx:xs[k]?=O x):∃g cap,v=.slice (O ⟨g,0,Zi⟩) xs.length cap/\w.cell? ⟨g,k*2,Zi⟩=O (.string s)/\w.cell? ⟨g,k*2+1,Zi⟩=O x:=by
 have hk:k<xs.length:=(Zz.1 hx).1;rcases h.2.2 with⟨_,e⟩|⟨g,cap,cur,e,_⟩
 .omega
 .refine⟨g,cap,e,?_⟩;subst e;have hc:=ZO h.2 (g:=g) rfl;have hm:(mv ks xs)[k*2]?=O (.string s)/\(mv ks xs)[k*2+1]?=O x:=Tt ks xs hs hx;have h0:=hc _ _ hm.1;have h1:=hc _ _ hm.2;rw[ZD,ZM]at h0 h1;exact⟨h0,h1⟩
section
variable {L S N A J La:Zp} {W0 w:Zj} {out:Zl} {acc:Zd UInt8}
theorem ahx{sl:Zl}(hS:fw W0 L S N A J La)(hr:oy W0 sl names ps)(lK:l.length<=1000)(hk:re W0 l ps)(Ie:∀s∈names,s.size<=1000)(hb:Zb W0.heap.size W0 w)(ho:OB w W0.heap.size out acc)(hn:acc.length+(123::dm (names.map (λ(k:Zk)=>dt k.data.toList++[32])) (cq l)++[125]).length<=3000000000):
 Zf prog 327 #[sl,out] w λe w'=>ft W0.heap.size w (acc++(123::dm (names.map (λ(k:Zk)=>dt k.data.toList++[32])) (cq l)++[125])) e w':=by
 have H0:=aa (SW.start ho hb.size);have bB:=aa hb;have HL:=aa hk;have HTM:=aa hr;have HS:=aa hS;have AL:=aa Ie;have em:ps.length<=l.length/\l.length<=ps.length:=by have:=hk.1;omega
 have hnl:names.length<=ps.length/\ps.length<=names.length:=by have:=hr.1;omega
 obtain⟨a,cap,km⟩:∃a cap,sl=.slice a ps.length cap:=by
  rcases hr.2.2 with⟨h1,h2⟩|⟨g,cap,cur,h1,_⟩
  .exact⟨Zi,0,by rw[h1,h2]⟩
  .exact⟨_,cap,h1⟩
 subst km;obtain⟨KS,Lb⟩:∃KS,KS=names.map (λ(k:Zk)=>dt k.data.toList++[32]):=⟨_,rfl⟩
 have qm:=aa Lb;rw[<-Lb]at hn⊢;obtain⟨Jv,hJ⟩:∃Jv,Jv=dm KS (cq l):=⟨_,rfl⟩
 have yp:XX (jw Jv KS (cq l) 0 []):=by show jw _ _ _ _ _;rw[hJ];exact jw.start _ _
 rw[<-hJ]at hn⊢;have hn:acc.length+Jv.length+2<=3000000000:=by simp only[ZA,Zv,ZB]at hn;omega
 rw[show acc++(123::Jv++[125])=acc++[123]++Jv++[125] by simp];obtain⟨M,hM⟩:∃M,M=W0.heap.size:=⟨_,rfl⟩
 have HM:=aa hM;rw[<-hM]at H0 bB⊢;clear hk hr hS Ie hb ho hM hJ Lb;go_enter func327,ntmps327;go_wp2_with (at_builtin;refine kG rfl (.tmp 7) (.tmp 8) rfl M _ (acc) rfl ?h1 _ _ _ [123] rfl rfl ?h2 ?h3 ?h4 ?_)
 case h1=>first|exact H0.o.ob.alloc _|simpa using H0.o.ob.alloc _
 case h2=>first|exact cX (by first|rfl|simp) _ _ rfl|exact λj u h=>h
 case h3=>first|(simp;omega)|omega
 case h4=>have:=H0.o.sz;first|(simp;omega)|(simp at this⊢;omega)|omega
 intro v1 w1 cE bX;have H1:XX (SW M w w1 v1 (acc++[123])):=by
  have:=(H0.o.alloc _).grow cE bX;show SW _ _ _ _ _;simpa using this
 clear cE bX;go_wp2_with fail;go_loopg [1,12] (ps.length+1) (λgh ov iv wr=>∃k acc2,iv=.int .i64 (k:Ze)/\k<=ps.length/\ps.length<gh+k/\jw Jv KS (cq l) k acc2/\SW M w wr ov (acc++[123]++acc2))
 case atStart=>exact⟨0,[],rfl,by omega,by omega,yp.o,by rw[Zd.append_nil];exact H1.o⟩
 case round=>
  obtain⟨k,acc2,rfl,hk,mL,zb,Fe⟩:=hrel;obtain⟨gh',rfl⟩:∃g,gk=g+1:=⟨gk-1,by omega⟩
  have Dm:=aa zb;have fL:=aa Fe;have az:=zb.len;clear zb Fe H0 H1 yp;rcases ZL k ps.length with h1|h1
  .have kj:(k:Zh)<(ps.length:Zh):=by omega
   have dO:k<l.length:=by omega
   have ma:k<names.length:=by omega
   obtain⟨t,v,zH,mh,s9⟩:=HL.o.2 k (l[k]'dO) (Zu dO);obtain⟨g,cp,um,fW,cU⟩:=HTM.o.get (Zu ma) zH;injection um with um _ Ht;subst um;subst Ht;have oC:Zb M W0 wr:=bB.o.trans fL.o.bel;have y0:wr.cell? ⟨g,k*2,Zi⟩=O (.string (names[k]'ma)):=gi fW (by rw[<-HM.o];exact oC);have y1:wr.cell? ⟨g,k*2+1,Zi⟩=O (.iface t v):=gi cU (by rw[<-HM.o];exact oC);have hX:=Dm.o.next (x:=gZ (l[k]'dO)) (by rw[IY,Zu dO];rfl);have fg:(KS.drop k).headD []=dt (names[k]'ma).data.toList++[32]:=by
    rw[qm.o,ZI (by simpa using ma)];simp
   rw[fg]at hX;have HX:=aa hX;have aH:=AL.o _ (Zd.getElem_mem ma);have sm:=aa (Iz mh v);have zB:=λW=>(sm.o W).1
   have o9:=(sm.o wr).2;have DC:=aa s9;obtain⟨Y,hY⟩:∃Y,Y=gZ (l[k]'dO):=⟨_,rfl⟩
   obtain⟨ky,zy⟩:∃ky,ky=names[k]'ma:=⟨_,rfl⟩
   have E8:(dt (names[k]'ma).data.toList).length<=600000:=by have:=xO (names[k]'ma).data.toList;have e:(names[k]'ma).data.toList.length=(names[k]'ma).size:=rfl;omega
   rw[<-zy]at HX y0 aH E8;rw[<-hY]at HX;have HY:=aa hY;obtain⟨Q,hQ⟩:∃Q,Q=dt ky.data.toList:=⟨_,rfl⟩
   rw[<-hQ]at HX E8;have jN:=HX.o.len;have HQ:=aa hQ;have sC:XX (∀ac w2 o2,SW M w w2 o2 ac->ac.length+Q.length<=3000000000->Zf prog 315 #[o2,.string ky] w2 λe w'=>ft M w2 (ac++Q) e w'):=λac w2 o2 h2 h3=>by
    rw[HQ.o]at h3 E8⊢;exact Np ky w2 M o2 ac (HS.o.below (by rw[<-HM.o];exact bB.o.trans h2.bel)) aH h2.sz h2.ob h3 E8
   have OS:XX (∀ac w2 o2,SW M w w2 o2 ac->ac.length+Y.length<=3000000000->Zf prog (xS t) #[v,o2] w2 λe w'=>ft M w2 (ac++Y) e w'):=λac w2 o2 h2 h3=>by
    have:=DC.o w2 o2 ac (by rw[<-HM.o];exact bB.o.trans h2.bel) (by rw[<-HM.o];exact h2.ob) (by rw[<-HY.o];exact h3);rw[<-HM.o,<-HY.o]at this;exact this
   have sq:XX (∀c fz,Obj.cells #[.string ky,.iface t v] 305 (0,0)≠.cells c 5 fz):=λc fz e=>by injection e with _ e2;exact Zq e2 (by decide)
   have HA:XX (SW M w (wr.alloc (.cells #[.string ky,.iface t v] 305)) u1 (acc++[123]++acc2)):=fL.o.alloc _;have DA:XX ((wr.alloc (.cells #[.string ky,.iface t v] 305)).heap[wr.heap.size]?=O (.cells #[.string ky,.iface t v] 305 (0,0))):=aE rfl;clear zH mh s9 fW cU oC hX fg hY zy hQ DC fL aH E8;rcases(show k=0\/0<k from by omega)with rfl|fe
   .have yF:XX (jw Jv KS (cq l) 1 (acc2++Q++[32]++Y)):=by
     have:=HX.o;show jw _ _ _ _ _;simpa using this
    have Mu:=yF.o.len;simp only[ZA,Zv,ZB]at Mu;clear jN HX;go_wp2_with fail;refine Zg (sC.o _ _ _ HA.o (by simp;omega)) ?_;rintro e w3 ⟨o3,rfl,h3⟩;have H3:XX (SW M w w3 o3 (acc++[123]++acc2++Q)):=HA.o.trans h3.o;have D3:=aa (h3.o.kept wr.heap.size _ DA.o (by simp) sq.o);clear h3 y0 y1;go_wp2_with (at_builtin;refine kG rfl (.tmp 26) (.tmp 27) rfl M _ (acc++[123]++acc2++Q) rfl ?h1 _ _ _ [32] rfl rfl ?h2 ?h3 ?h4 ?_)
    case h1=>first|exact H3.o.ob.alloc _|simpa using H3.o.ob.alloc _
    case h2=>first|exact cX (by first|rfl|simp) _ _ rfl|exact λj u h=>h
    case h3=>first|(simp;omega)|omega
    case h4=>have:=H3.o.sz;first|(simp;omega)|(simp at this⊢;omega)|omega
    intro v4 w4 aN oW;have H4:XX (SW M w w4 v4 (acc++[123]++acc2++Q++[32])):=by
     have:=(H3.o.alloc _).grow aN oW;show SW _ _ _ _ _;simpa using this
    have D4:=aa (kV ((Zy _ _ _).alloc _) (H3.o.ob.alloc _) oW wr.heap.size _ D3.o (by simp) sq.o);clear aN oW;obtain⟨e0,e1⟩:=Ks D4.o;go_wp2_with fail;refine Zg (OS.o _ _ _ H4.o (by simp;omega)) ?_;rintro e w5 ⟨o5,rfl,h5⟩;have H5:=aa (H4.o.trans h5.o);clear h5 e0 e1;go_wp2;go_roundg gh'
    case measure=>omega
    case rel=>exact⟨1,acc2++Q++[32]++Y,by go_num,by omega,by omega,yF.o,by have:=H5.o;simpa using this⟩
   .have aev:(0:Zh)<(k:Zh):=by omega
    have yF:XX (jw Jv KS (cq l) (k+1) (acc2++[32]++Q++[32]++Y)):=by
     have:=HX.o;rw[decide_eq_true fe,Zc rfl]at this;show jw _ _ _ _ _;simpa using this
    have Mu:=yF.o.len;simp only[ZA,Zv,ZB]at Mu;clear jN HX;go_wp2_with (at_builtin;refine kG rfl (.tmp 19) (.tmp 20) rfl M _ (acc++[123]++acc2) rfl ?h1 _ _ _ [32] rfl rfl ?h2 ?h3 ?h4 ?_)
    case h1=>first|exact HA.o.ob.alloc _|simpa using HA.o.ob.alloc _
    case h2=>first|exact cX (by first|rfl|simp) _ _ rfl|exact λj u h=>h
    case h3=>first|(simp;omega)|omega
    case h4=>have:=HA.o.sz;first|(simp;omega)|(simp at this⊢;omega)|omega
    intro v2 w2 dH BM;have H2:XX (SW M w w2 v2 (acc++[123]++acc2++[32])):=by
     have:=(HA.o.alloc _).grow dH BM;show SW _ _ _ _ _;simpa using this
    have D2:=aa (kV ((Zy _ _ _).alloc _) (HA.o.ob.alloc _) BM wr.heap.size _ DA.o (by simp) sq.o);clear dH BM;obtain⟨d0,d1⟩:=Ks D2.o;go_wp2_with fail;refine Zg (sC.o _ _ _ H2.o (by simp;omega)) ?_;rintro e w3 ⟨o3,rfl,h3⟩;have H3:XX (SW M w w3 o3 (acc++[123]++acc2++[32]++Q)):=H2.o.trans h3.o;have D3:=aa (h3.o.kept wr.heap.size _ D2.o (by simp) sq.o);clear h3 y0 y1 d0 d1;go_wp2_with (at_builtin;refine kG rfl (.tmp 26) (.tmp 27) rfl M _ (acc++[123]++acc2++[32]++Q) rfl ?h1 _ _ _ [32] rfl rfl ?h2 ?h3 ?h4 ?_)
    case h1=>first|exact H3.o.ob.alloc _|simpa using H3.o.ob.alloc _
    case h2=>first|exact cX (by first|rfl|simp) _ _ rfl|exact λj u h=>h
    case h3=>first|(simp;omega)|omega
    case h4=>have:=H3.o.sz;first|(simp;omega)|(simp at this⊢;omega)|omega
    intro v4 w4 aN oW;have H4:XX (SW M w w4 v4 (acc++[123]++acc2++[32]++Q++[32])):=by
     have:=(H3.o.alloc _).grow aN oW;show SW _ _ _ _ _;simpa using this
    have D4:=aa (kV ((Zy _ _ _).alloc _) (H3.o.ob.alloc _) oW wr.heap.size _ D3.o (by simp) sq.o);clear aN oW;obtain⟨e0,e1⟩:=Ks D4.o;go_wp2_with fail;refine Zg (OS.o _ _ _ H4.o (by simp;omega)) ?_;rintro e w5 ⟨o5,rfl,h5⟩;have H5:=aa (H4.o.trans h5.o);clear h5 e0 e1;go_wp2;go_roundg gh'
    case measure=>omega
    case rel=>exact⟨k+1,acc2++[32]++Q++[32]++Y,by go_num,by omega,by omega,yF.o,by have:=H5.o;simpa using this⟩
  .have kj:¬(k:Zh)<(ps.length:Zh):=by omega
   have hE:acc2=Jv:=Dm.o.fin (by rw[IZ];omega);subst hE;go_wp2_with (at_builtin;refine kG rfl (.tmp 34) (.tmp 35) rfl M _ (acc++[123]++acc2) rfl ?h1 _ _ _ [125] rfl rfl ?h2 ?h3 ?h4 ?_)
   case h1=>first|exact fL.o.ob.alloc _|simpa using fL.o.ob.alloc _
   case h2=>first|exact cX (by first|rfl|simp) _ _ rfl|exact λj u h=>h
   case h3=>first|(simp;omega)|omega
   case h4=>have:=fL.o.sz;first|(simp;omega)|(simp at this⊢;omega)|omega
   intro v3 w3 bz aP;have H3:XX (SW M w w3 v3 (acc++[123]++acc2++[125])):=by
    have:=(fL.o.alloc _).grow bz aP;show SW _ _ _ _ _;simpa using this
   clear bz aP;go_wp2;go_ret;exact⟨_,rfl,H3.o⟩
end
def wZ(y:Nd):Prop:=lZ y/\eN y=Zn/\jQ y<=1000000000/\(iZ y).2=0
theorem NJ:∀(l:Zd Nd),1000000*l.length<=eW l
 |[]=>by simp
 |.mk op a s names l n0 n1 n2 i0 i1 i2 v::m=>by
  rw[eW,px,Zv];have:=NJ m;omega
theorem Vy:∀{l:Zd Nd} {y:Nd},(mn l).2=0->y∈l->(iZ y).2=0
 |[],y,_,h=>by cases h
 |x::l,y,h0,h=>by
  rw[mn]at h0;by_cases hx:(iZ x).2=0
  .rw[Za (λe=>e hx)]at h0;rcases ZK.1 h with e|e
   .rw[e];exact hx
   .exact Vy h0 e
  .rw[Zc hx]at h0;exact Zq h0 hx
theorem aa7(h:gz l=Zn)(hy:y∈l):eN y=Zn:=by
 rw[yP]at h;rw[ZG];intro e;rw[ZG]at h;exact h (Zd.any_eq_true.2 ⟨y,hy,e⟩)
theorem wZ.kid{v:Option (VT 12)}(h:wZ (.mk op a s names l n0 n1 n2 i0 i1 i2 v)):(∀y∈l,wZ y)/\l.length<=1000/\(op=eX->gB s l=0):=by
 obtain⟨h1,h2,h3,h4⟩:=h;rw[lZ]at h1;rw[eN,Bool.or_eq_false_iff]at h2;rw[px]at h3;rw[iZ]at h4;have hc:¬(op=eX/\gB s l≠0):=λe=>by rw[Zc e]at h4;exact e.2 h4
 rw[Za hc]at h4;refine⟨λy hy=>⟨MT h1.2.2.2.2 hy,aa7 h2.2 hy,?_,Vy h4 hy⟩,?_,λe=>?_⟩
 .have:=NK hy;omega
 .have:=NJ l;omega
 .by_cases q:gB s l=0
  .exact q
  .exact Zq ⟨e,q⟩ hc
theorem abs:gB s []≠0:=by
 unfold gB;split
 .decide
 .rename_i h
  rw[Zc]
  .decide
  .by_cases q:gb (fq s) ((fq s).size-1)=43
   .exact .inl ⟨q,rfl⟩
   .exact .inr ⟨q,λe=>h e.symm⟩
theorem ajn(op s:Zk)(J:Zd UInt8)(n0 n1 n2:Zh)(i0 i1 i2:Bool)(v:Option (VT 12)):gr op s J n0 n1 n2 i0 i1 i2 v≠[]:=by
 by_cases h1:op=oP
 .rw[NV h1];exact Zm _ _
 by_cases h2:op=lA
 .rw[NM h2,h2];decide
 by_cases h3:op=eV
 .rw[NN h3,h3];decide
 by_cases h4:op=rX
 .rw[NZ h4];exact Zm _ _
 by_cases h5:op=kr
 .rw[NR h5];exact Zm _ _
 by_cases h6:op=eX
 .rw[I6 h6];split <;> exact Zm _ _
 by_cases h7:op=m8
 .rw[NU h7];exact Zm _ _
 by_cases h8:op=fi
 .rw[NX h8];exact Zm _ _
 by_cases h9:op=oO
 .rw[NO h9];exact Zm _ _
 by_cases lp:op=j7
 .rw[NY lp];exact Zm _ _
 by_cases pS:op=pA
 .rw[N0 pS];exact Zm _ _
 by_cases fD:op=qj
 .rw[NT fD];exact Zm _ _
 by_cases mB:op=om
 .rw[NS mB];exact Zm _ _
 rw[NL h1 h2 h3 h4 h5 h6 h7 h8 h9 lp pS fD mB];exact Zm _ _
theorem aiD(y:Nd):gZ y≠[]:=by
 obtain⟨op,a,s,names,l,n0,n1,n2,i0,i1,i2,v⟩:=y;rw[FG];exact ajn _ _ _ _ _ _ _ _ _ _
theorem I5{J:Zd UInt8}{v:Option (VT 12)}(h:op∈fa::jk::eF::pr):gr op s J n0 n1 n2 i0 i1 i2 v=40::op.data.toList++32::J++[41]/\op.size<=1000/\op≠fi:=by
 simp only[pr,ii,ZH,Zw,ZK,Zd.not_mem_nil,or_false]at h;rcases h with rfl|rfl|rfl|rfl|rfl|rfl|rfl|rfl|rfl|rfl|rfl|rfl
 all_goals exact⟨NL (by decide) (by decide) (by decide) (by decide) (by decide) (by decide) (by decide) (by decide) (by decide) (by decide) (by decide) (by decide) (by decide),by decide,by decide⟩
theorem xH(h:op≠fi):mj op names=[]:=Za h
section
variable {L S N A J La:Zp} {W0:Zj}
theorem aiv(hS:fw W0 L S N A J La){vv:Option (VT 12)}(hT:wZ (.mk op a s names l n0 n1 n2 i0 i1 i2 vv))(hk:re W0 l ps)(h:iL W0 AA op a s names n0 n1 n2 i0 i1 i2 vv ps x):
 ∃t v,x=.iface t v/\t∈ol/\yN W0 (.mk op a s names l n0 n1 n2 i0 i1 i2 vv) t v:=by
 obtain⟨_,lK,bF⟩:=hT.kid;have dM:=hT.1;rw[lZ]at dM;obtain⟨hs,Ie,Ce,hnl,_⟩:=dM;have hq:(dt s.data.toList).length<=600000:=by have:=xO s.data.toList;have e:s.data.toList.length=s.size:=rfl;omega
 unfold yN;rw[FG];cases h
 case name=>
  refine⟨_,_,rfl,by decide,λw out acc hb ho hn=>?_⟩;rw[NV rfl]at hn⊢;exact ahr s hS hs hq hb ho hn
 case cur=>
  refine⟨_,_,rfl,by decide,λw out acc hb ho hn=>?_⟩;rw[NM rfl]at hn⊢;exact ag7 hb ho hn
 case vals=>
  refine⟨_,_,rfl,by decide,λw out acc hb ho hn=>?_⟩;rw[NN rfl]at hn⊢;exact ah5 hb ho hn
 case raw=>
  refine⟨_,_,rfl,by decide,λw out acc hb ho hn=>?_⟩;rw[NZ rfl]at hn⊢;exact ahL s hS hs hq hb ho hn
 case lit y hy fF=>
  refine⟨_,_,rfl,by decide,λw out acc hb ho hn=>?_⟩;cases vv with
  |none=>
   have:=hT.2.1;rw[eN]at this;simp at this
  |some vx=>
   rw[NR rfl]at hn⊢;exact aho vx y hS hy fF.2.2 fF.1 fF.2.1 hb ho hn
 case call c sl hA sL hr=>
  refine⟨_,_,rfl,by decide,λw out acc hb ho hn=>?_⟩;have hJ:dm (mj eX names) (cq l)≠[]:=by
   rw[xH (by decide)];cases l with
   |nil=>exact Zq (bF rfl) abs
   |cons y m=>
    rw[Tb,cq,Tc];intro e;simp at e;exact aiD y e.1
  rw[I6 rfl,Za hJ,xH (by decide)]at hn⊢;exact ag5 s hs sL hr.1 lK hk hb ho hn
 case list sl hr=>
  refine⟨_,_,rfl,by decide,λw out acc hb ho hn=>?_⟩;rw[NU rfl,xH (by decide)]at hn⊢;exact ahm hr.1 lK hk hb ho hn
 case obj=>
  refine⟨_,_,rfl,by decide,λw out acc hb ho hn=>?_⟩;rw[NX rfl,show mj fi names=names.map (λ(k:Zk)=>dt k.data.toList++[32])from Zc rfl]at hn⊢;exact ahx hS ‹oy W0 _ names _› lK hk Ie hb ho hn
 case flat=>
  refine⟨_,_,rfl,by decide,λw out acc hb ho hn=>?_⟩;rw[NT rfl]at hn⊢;exact ahg hb ho hn
 case things=>
  refine⟨_,_,rfl,by decide,λw out acc hb ho hn=>?_⟩;rw[N0 rfl]at hn⊢;exact ahX hb ho hn
 case filter p=>
  refine⟨_,_,rfl,by decide,λw out acc hb ho hn=>?_⟩;rw[NS rfl,xH (by decide)]at hn⊢
  match l,hk,hn with
  |[y],hk,hn=>exact ahb hk hb ho hn
 case index=>
  refine⟨_,_,rfl,by decide,λw out acc hb ho hn=>?_⟩;rw[NO rfl]at hn⊢;exact ahh n0 Ce.1 hS hb ho hn
 case slice=>
  refine⟨_,_,rfl,by decide,λw out acc hb ho hn=>?_⟩;rw[NY rfl,show fC Zo n2=gK n2 from rfl]at hn⊢;exact ahS i0 i1 n0 n1 n2 Ce hS hb ho hn
 case chain p ps sl hr=>
  refine⟨_,_,rfl,by decide,λw out acc hb ho hn=>?_⟩;rw[(I5 (by simp)).1,xH (by decide)]at hn⊢;exact ag6 hr.1 lK hk hb ho hn
 case not p=>
  refine⟨_,_,rfl,by decide,λw out acc hb ho hn=>?_⟩;rw[(I5 (by simp)).1,xH (by decide)]at hn⊢;exact ahu hk hb ho hn
 case expr p=>
  refine⟨_,_,rfl,by decide,λw out acc hb ho hn=>?_⟩;rw[(I5 (by simp)).1,xH (by decide)]at hn⊢;exact aha hk hb ho hn
 case pair p q fF=>
  refine⟨_,_,rfl,by decide,λw out acc hb ho hn=>?_⟩;have ht:=I5 (s:=s) (J:=dm (mj op names) (cq l)) (n0:=n0) (n1:=n1) (n2:=n2) (i0:=i0) (i1:=i1) (i2:=i2) (v:=vv) (show op∈fa::jk::eF::pr from ZC _ (ZC _ (ZC _ fF)));rw[ht.1,xH ht.2.2]at hn⊢;exact ahG op ht.2.1 hk hb ho hn
mutual
theorem U8(hS:fw W0 L S N A J La){AA:Ze->Prop}:∀(y:Nd) (x:Zl),NP W0 AA y x->wZ y->∃t v,x=.iface t v/\t∈ol/\yN W0 y t v
 |.mk op a s names l n0 n1 n2 i0 i1 i2 vv,x,h,hT=>by
  unfold NP at h;obtain⟨ps,h1,h2⟩:=h;exact aiv hS hT (U9 hS l ps h1 hT.kid.1) h2
theorem U9(hS:fw W0 L S N A J La){AA:Ze->Prop}:∀(l:Zd Nd) (ps:Zd Zl),bY W0 AA l ps->(∀y∈l,wZ y)->re W0 l ps
 |[],ps,h,hT=>by
  unfold bY at h;subst h;exact⟨rfl,λk y hy=>by simp at hy⟩
 |y::l,ps,h,hT=>by
  unfold bY at h;obtain⟨p,ps',e,h1,h2⟩:=h;subst e;obtain⟨t,v,e,q1,q2⟩:=U8 hS y p h1 (hT y (by simp));have ih:=U9 hS l ps' h2 (λz hz=>hT z (by simp[hz]));refine⟨by simp[ih.1],λk z hz=>?_⟩;cases k with
  |zero=>
   simp at hz;subst hz;exact⟨t,v,by simp[e],q1,q2⟩
  |succ k=>exact ih.2 k z (by simpa using hz)
end
theorem ajT(hS:fw W0 L S N A J La)(h:NP W0 AA y x)(hT:wZ y)(hn:(gZ y).length<=3000000000):
 Zf prog 15 #[x] W0 λe w'=>e=.returned (.string (bs (gZ y)))/\Zb W0.heap.size W0 w':=by
 obtain⟨t,v,rfl,mh,s9⟩:=U8 hS y x h hT;have HC:=aa (s9 W0 (.slice Zi 0 0) [] (Zt _ _) (OB.nil _ _) (by simpa using hn));have sm:=aa (Iz mh v);have zB:=λW=>(sm.o W).1
 have o9:=(sm.o W0).2;clear hS h hT hn mh s9;go_enter func15,ntmps15;go_wp2_with fail;refine Zg HC.o ?_;rintro e w1 ⟨o1,rfl,h1⟩;have oU:=ua h1.o.ob;rw[Zw]at oU;have HB:=aa h1.o.bel;clear h1;go_wp2;go_ret;exact⟨rfl,HB.o⟩
end
def ll:Nd->Ze×Zh
 |.mk _ a s _ l _ _ _ _ _ _ _=>(a,gB s l)
def mz:Zd Nd->Ze×Zh
 |[]=>(0,0)
 |y::m=>if(ll y).2≠0 then ll y else mz m
theorem KV:∀(A B:Zd Nd),mz (A++B)=if(mz A).2≠0 then mz A else mz B
 |[],B=>by rw[Zw,mz,Za (by simp)]
 |y::m,B=>by
  rw[ZH,mz,mz];by_cases h:(ll y).2≠0
  .rw[Zc h,Zc h,Zc h]
  .rw[Za h,Za h,KV m B]
mutual
theorem Of:∀(y:Nd),iZ y=mz (gC y)
 |.mk op a s names l n0 n1 n2 i0 i1 i2 v=>by
  rw[iZ,gC,KV,<-Vw l];by_cases h:op=eX
  .rw[Zc h,mz,mz];by_cases h2:gB s l≠0
   .rw[Zc ⟨h,h2⟩,Zc (by rw[Zc (show(ll (.mk op a s names l n0 n1 n2 i0 i1 i2 v)).2≠0 from h2)];exact h2),Zc (show(ll (.mk op a s names l n0 n1 n2 i0 i1 i2 v)).2≠0 from h2)]
    rfl
   .rw[Za (λe=>h2 e.2),Za (by rw[Za (show ¬(ll (.mk op a s names l n0 n1 n2 i0 i1 i2 v)).2≠0 from h2)];simp)]
  .rw[Za (λe=>h e.1),Za h,mz,Za (by simp)]
theorem Vw:∀(l:Zd Nd),mn l=mz (jc l)
 |[]=>by rw[mn,jc,mz]
 |x::l=>by rw[mn,jc,KV,<-Of x,<-Vw l]
end
mutual
theorem PW:∀(x y:Nd),y∈gC x->jQ y<=jQ x
 |.mk op a s names l n0 n1 n2 i0 i1 i2 v,y,h=>by
  rw[gC]at h;rcases ZJ.1 h with h|h
  .by_cases hc:op=eX
   .rw[Zc hc,Zd.mem_singleton]at h;rw[h];exact Ze.le_refl _
   .rw[Za hc]at h;cases h
  .have:=PU l y h;rw[px];omega
theorem PU:∀(l:Zd Nd) (y:Nd),y∈jc l->jQ y<=eW l
 |[],y,h=>by rw[jc]at h;cases h
 |x::l,y,h=>by
  rw[jc]at h;rw[eW];rcases ZJ.1 h with h|h
  .have:=PW x y h;omega
  .have:=PU l y h;omega
end
theorem ajw(k:Zh):aS k=1↔k=101:=by
 unfold aS;constructor
 .intro h
  repeat' split at h
  all_goals omega
 .intro h;rw[h];decide
section
variable {L S N A J La:Zp}
theorem afX{p:Zl}(h:CP w B y p)(hS:fw w L S N A J La)(hz:jQ y<=1000000000):
 Zf prog 29 #[p] w λe w'=>e=.returned (vY N A (ll y).1 (ll y).2)/\Zb w.heap.size w w':=by
 obtain⟨c,rfl,hn⟩:=h;obtain⟨op,a,s,names,l,n0,n1,n2,i0,i1,i2,v⟩:=y;unfold NP at hn;obtain⟨ps,h1,h2⟩:=hn;rw[px]at hz;have:=NJ l;cases h2
 case call=>exact ahi (by assumption) h1 (And.left ‹yM w B _ ps›) (by omega) hS
def GF(L S N A La:Zp)(x:Ze×Zh):Zl:=if x.2=1 then .iface 279 (.pointer (O L))else if x.2=2 then aG S x.1 else if x.2=6 then .iface 279 (.pointer (O La))else vY N A x.1 x.2
def nR(u:Zk)(L S N A La:Zp)(M:Ze)(w':Zj)(x er:Zl):Prop:=match gI u with
 |.error p=>x=.nilIface/\er=GF L S N A La p
 |.ok y=>er=.nilIface/\NP w' (λm=>M<=m) y x
theorem alf{M:Ze}{T:Zd (aj×Ze)}(h:A0 w M (λm=>M<=m/\v.ownBlock≠O m) v T)(hT:0<T.length)(hl:T.length<=1000)(hlast:∀(k:Ze) (x:aj×Ze),T[k]?=O x->k+1=T.length->x.1.kind=101\/x.1.kind=120)(hsyn:w.heap[2]?=O (.cells #[.iface 279 (.pointer (O S))] 29 (0,0))):
 ∃g tc,v=.slice (O ⟨g,0,Zi⟩) T.length tc/\ZS (w.alloc (CU v 0 0 Zn (.slice Zi 0 0))) w.heap.size (λm=>M<=m/\m<w.heap.size) T g tc S 0 0 Zn (.slice Zi 0 0) []:=by
 obtain⟨xs,am,qF⟩:=h;rcases am.2 with⟨_,e⟩|⟨g,tc,cur,e,hMg,hg,_⟩
 .omega
 refine⟨g,tc,e,?_⟩;have rx:∀(i:Ze) (u:Zl),xs[i]?=O u->w.cell? ⟨g,i,Zi⟩=O u:=λi u hu=>by
  have:=ZO am (g:=g) (by rw[e];rfl) i u hu;rw[ZD,ZM]at this;exact this
 refine⟨by rw[<-e];exact aE rfl,⟨λk x hx=>?_,cj hsyn⟩,Zj.ownsRow_nil _ _ _ _,λk hk=>by simp[ZN]at hk,al hg,λm h=>h.2,al hsyn,hl,hlast,by simp⟩;obtain⟨x1,x2⟩:=x;obtain⟨v',SI,hc⟩:=qF.get hx;refine⟨v',⟨SI.1,SI.2.keep (λm hm ai=>⟨ZE _ _ _ ai,hm.1,ai⟩)⟩,λj u hj=>?_⟩;have hj6:j<6:=by
  have:=(Zz.1 hj).1;simpa[kp]using this
 exact yT (rx _ _ ((hc j hj6).trans hj)) _
def tt(T:Zd (aj×Ze))(R:PR):Except (Ze×Zh) Nd:=match R with
 |.error bad=>.error (bad,2)
 |.ok x=>if(bp T x.2).kind≠101 then .error (bE T x.2,2)
  else if eN x.1 then .error (0,6)
  else if(iZ x.1).2≠0 then .error (iZ x.1)else .ok x.1
theorem Ne(h:¬120<u.size):gI u=tt (toks u) (fm (toks u) (bV (toks u) 12) 3 0):=by
 rw[gI,Za h]
 rfl
theorem aa6{w1 w2:Zj}{ob:Obj}{cv:Zl}(hb:Zb w.heap.size w w1)(hf:ZF (w1.alloc ob).heap.size w1.heap.size (.slice Zi 0 0) cv (w1.alloc ob) w2):Zb w.heap.size w w2:=by
 have h1:=hb.size;have h2:(w1.alloc ob).heap.size=w1.heap.size+1:=by simp
 refine⟨hf.os.trans hb.os,hf.tape.trans hb.tape,hf.output.trans hb.output,by have:=hf.size;omega,λk hk=>?_⟩;rw[hf.block k (by omega) (by omega) (by simp[ZN]),ZE _ _ _ (by omega),hb.block k hk]
theorem Pv(y:Nd)(h:(ll y).2≠0):(ll y).2=3\/(ll y).2=4:=by
 obtain⟨op,a,s,names,l,n0,n1,n2,i0,i1,i2,v⟩:=y;have h:gB s l≠0:=h;show gB s l=3\/gB s l=4;unfold gB at h⊢;by_cases h1:(fq s).size=0
 .rw[Zc h1];exact .inl rfl
 .rw[Za h1]at h⊢;split
  .exact .inr rfl
  .rename_i h2
   rw[Za h2]at h;split
   .exact .inr rfl
   .rename_i h3
    rw[Za h3]at h;exact Zq rfl h
theorem afW(N A:Zp)(a:Ze){k:Zh}(h:k≠0):∃Z,vY N A a k=aG Z a:=by
 unfold vY;rw[Za h];by_cases h3:k=3
 .exact⟨N,Zc h3⟩
 .exact⟨A,Za h3⟩
theorem abB{cs:Zd Zl}(h:bO (CP w B) l cs)(hk:k<cs.length):∃y p,l[k]?=O y/\cs[k]?=O p/\CP w B y p:=
 bO.get h k (by rw[h.length];exact hk)
theorem agY(u:Zk)(w:Zj)(hS:fw w L S N A J La)(hsyn:w.heap[2]?=O (.cells #[.iface 279 (.pointer (O S))] 29 (0,0))):
 Zf prog 14 #[.string u] w λe w'=>∃x er,e=.returned (.tuple #[x,er])/\Zb w.heap.size w w'/\XX (nR u L S N A La w.heap.size w' x er):=by
 have O5:XX (∀w' x er,nR u L S N A La w.heap.size w' x er=nR u L S N A La w.heap.size w' x er):=λ_ _ _=>rfl
 by_cases hu:120<u.size
 .have hui:(120:Zh)<(u.size:Zh):=by omega
  have c0:=hS.sents.cL;have HR:XX (gI u=.error (0,1)):=by show _=_;rw[gI,Zc hu]
  clear hS hsyn hu O5;go_enter func14,ntmps14;go_wp2_with fail;go_quiet (fail);go_wp2;go_ret2;refine⟨_,_,rfl,jI (Zt _ _) _,?_⟩;show nR _ _ _ _ _ _ _ _ _ _;unfold nR;rw[HR.o];exact⟨rfl,rfl⟩
 .have hui:¬(120:Zh)<(u.size:Zh):=by omega
  obtain⟨T,hT⟩:∃T,T=toks u:=⟨_,rfl⟩
  obtain⟨f1,f2,f3,f4⟩:=Je u;have q9:XX (gI u=tt T (fm T (bV T 12) 3 0)):=by show _=_;rw[hT];exact Ne hu
  have wQ:XX (∀x,fm T (bV T 12) 3 0=.ok x->x.2<T.length->jQ x.1<=1000000000):=λx hx hj=>by
   rw[hT]at hx hj;have h1:=Ur (N7 (u:=u) (by omega)) (x:=x.1) (j:=x.2) hx;omega
  have oQ:=aa (agW ahN u w (by omega) hS);rw[<-hT]at oQ f1 f2 f3;have HS:=aa hS;have yz:=aa hsyn;have Lk:T.length<=121:=by omega
  have eh:=aa f3;clear hS hsyn hT f2 f3 f4 O5;go_enter func14,ntmps14;go_wp2_with fail;refine Zg oQ.o ?_;rintro e w1 ⟨v,rfl,ae,ny⟩;obtain⟨g,tc,hv,S2⟩:=alf (S:=S) ny.o f1 (by omega) eh.o ((ae.block _ (al yz.o)).trans yz.o);subst hv;have zJ:=V8 (Mz (T:=T) 12) _ _ _ _ _ _ _ _ _ _ 0 (by omega) (by omega) S2 f1;unfold cK at zJ;have tM:=aa zJ;have aT:=aa ae;unfold CU at tM;clear ny S2 zJ ae;go_wp2_with fail;refine Zg tM.o ?_;rintro e w2 ⟨x,er,i1,lg1,cv1,cs1,rfl,hx,bR,bC,ay,aU,aW⟩;have aY:XX (Zb w.heap.size w w2):=aa6 aT.o bC;have HA:XX (∀m,((w.heap.size<=m/\m<w1.heap.size)\/(w1.alloc (.cells #[.slice (O ⟨g,0,Zi⟩) T.length tc,.int .i64 0,.int .i64 0,.bool Zn,.slice Zi 0 0] 59)).heap.size<=m)->w.heap.size<=m):=λm hm=>by
   rcases hm with q|q
   .exact q.1
   .have:=aT.o.size;simp at q;omega
  have hr:=aW.o;cases hR:fm T (bV T 12) 3 0 with
  |error p=>
   rw[hR]at hr;have hr:er=aG S p:=hr;subst hr;have HR:XX (gI u=.error (p,2)):=by show _=_;rw[q9.o,hR];rfl
   clear aW bC ay hx bR hR q9 wQ tM;rw[aG];go_wp2_with fail;go_ret2;refine⟨_,_,rfl,aY.o,?_⟩;show nR _ _ _ _ _ _ _ _ _ _;unfold nR;rw[HR.o];exact⟨rfl,rfl⟩
  |ok r=>
   rw[hR]at hr;obtain⟨rfl,rfl,oH,kP,new,gF,rx⟩:=hr;have JV:XX (NP w2 (λm=>w.heap.size<=m) r.1 x):=NP.keep (λm hm _=>⟨rfl,HA.o m hm.1⟩) _ _ kP;have sh:XX (bO (CP w2 (λm=>w.heap.size<=m)) (gC r.1) cs1):=by
    show bO _ _ _;rw[gF,Zw];exact rx.mono (λa c hac=>hac.keep (λm hm _=>⟨rfl,HA.o m hm.1⟩))
   have q8:XX (gI u=tt T (.ok r)):=by show _=_;rw[q9.o,hR]
   have HZ:=aa (wQ.o r hR aU);rw[Bool.false_or]at oH;have wN:=aa oH;have fj:=aa ay;obtain⟨y,hy⟩:∃y,T[r.2]?=O y:=⟨_,Zu aU⟩
   have vU:bp T r.2=y.1:=by rw[bp,hy]
   have O6:=aa vU;have HN:=aa (uK ay hy);have HW:XX (∀W,Zb w2.heap.size w2 W->Zf prog 28 #[.pointer (O ⟨w1.heap.size,0,Zi⟩)] W λe w'=>e=.returned (aG S (bE T r.2))/\Zb W.heap.size W w'):=λW hW=>uL (fj.o.below hW) aU
   have dh:=ajw y.1.kind;have RL:=KX;obtain⟨kd,fg⟩:∃kd,kd=aS y.1.kind:=⟨_,rfl⟩
   rw[<-fg]at HN dh;have alT:=ay.cl;clear aW bC ay bR hR q9 wQ tM oH kP gF rx hy vU fg;by_cases fg:kd=1
   .have HK:XX ((bp T r.2).kind=101):=by show _=_;rw[O6.o];exact dh.1 fg
    subst fg;clear dh HW;rcases hx with rfl|⟨tx,vx,rfl⟩
    .exact Zq JV.o.isif (λ⟨_,_,e⟩=>by cases e)
    cases lg1
    .have sc:XX (eN r.1=Zn):=wN.o.symm;go_wp2_with fail;refine Zg HN.o ?_;rintro e w3 ⟨v3,rfl,ap,ti,_⟩;rw[aI];have bo:XX (Zb w.heap.size w w3):=aY.o.trans (ap.mono aY.o.size);have bm:=fj.o.below ap;obtain⟨z0,z1,z2,z3,z4,zf⟩:=jF bm.blk;have uX:=aa bm.row;obtain⟨av,capv,oU⟩:∃a cap,cv1=.slice a cs1.length cap:=by
      rcases bm.row.len with⟨h1,h2⟩|⟨g,cap,h1,_⟩
      .exact⟨Zi,0,by rw[h1,h2];rfl⟩
      .exact⟨_,cap,h1⟩
     subst oU;have WY:XX (NP w3 (λm=>w.heap.size<=m) r.1 (.iface tx vx)):=NP.keep (λm hm ai=>⟨ap.block m ai,hm⟩) _ _ JV.o;have Ow:XX (bO (CP w3 (λm=>w.heap.size<=m)) (gC r.1) cs1):=sh.o.mono (λa c hac=>hac.keep (λm hm ai=>⟨ap.block m ai,hm⟩));have alU:cs1.length<=1000:=by omega
     clear ap bm z0 z1 z2 zf JV sh HN fj aY;rcases ti with rfl|⟨tv,xv,rfl⟩
     all_goals
      go_wp2_with fail;go_loopg [34] (cs1.length+1) (λgh iv wr=>∃k:Ze,iv=.int .i64 k/\k<=cs1.length/\cs1.length<gh+k/\Zb w3.heap.size w3 wr/\iZ r.1=mz ((gC r.1).drop k))
      case atStart=>exact⟨0,rfl,by omega,by omega,Zt _ _,by rw[Zd.drop_zero];exact Of _⟩
      case round=>
       obtain⟨k,rfl,hk,mL,oC,sS⟩:=hrel;obtain⟨gh',rfl⟩:∃g,gk=g+1:=⟨gk-1,by omega⟩
       have lU:=aa oC;have tG:=aa sS;have bq:XX (Zb w.heap.size w wr):=bo.o.trans (oC.mono bo.o.size);clear oC sS;rcases ZL k cs1.length with h1|h1
       .have kj:(k:Zh)<(cs1.length:Zh):=by omega
        obtain⟨yc,pc,Io,nx,Ht⟩:=abB Ow.o h1;have LG:=Ht.keep (λm hm ai=>⟨lU.o.block m ai,hm⟩);have Mv:jQ yc<=1000000000:=Zx (PW r.1 yc (Zd.mem_of_getElem? Io)) HZ.o;have HJ:=aa (afX LG (HS.o.below bq.o) Mv);obtain⟨gc,rfl,jZ⟩:∃gc,av=O ⟨gc,0,Zi⟩/\wr.cell? ⟨gc,k,Zi⟩=O pc:=by
         rcases uX.o.len with⟨q1,q2⟩|⟨gc,cp,q1,_⟩
         .rw[q2]at h1;simp at h1
         .injection q1 with q1 _ _;subst q1;exact⟨gc,rfl,gi (uX.o.get nx) lU.o⟩
        obtain⟨cc,rfl,_⟩:=Ht;have LJ:(gC r.1).drop k=yc::(gC r.1).drop (k+1):=by
         obtain⟨ai,he⟩:=Zz.1 Io;rw[ZI ai,he]
        have sS:=tG.o;rw[LJ,mz]at sS;by_cases bU:(ll yc).2≠0
        .rw[Zc bU]at sS;obtain⟨Zs,Ll⟩:=afW N A (ll yc).1 bU;have wK:XX (gI u=.error (ll yc)/\(ll yc).2≠0/\((ll yc).2=3\/(ll yc).2=4)):=by
          refine⟨?_,bU,?_⟩
          .rw[q8.o,tt,Za (λe=>e HK.o),sc.o,Za (by simp),Zc (by rw[sS];exact bU),sS]
          .exact Pv yc bU
         have HZS:=aa Ll;rw[Ll]at HJ;clear nx LG Mv LJ sS Io bU Ll;go_wp2_with fail;refine Zg HJ.o ?_;rintro e w5 ⟨rfl,bP⟩;rw[aG];go_wp2_with fail;go_ret2;refine⟨_,_,rfl,bq.o.trans (bP.mono bq.o.size),?_⟩;show nR _ _ _ _ _ _ _ _ _ _;unfold nR;rw[wK.o.1];refine⟨rfl,?_⟩;have gV:=wK.o.2.2;show _=GF _ _ _ _ _ _;rw[GF,Za (by omega),Za (by omega),Za (by omega),HZS.o]
         rfl
        .rw[Za bU]at sS;have WC:=aa sS;have RT:vY N A (ll yc).1 (ll yc).2=.nilIface:=Zc (by simpa using bU);rw[RT]at HJ;clear nx LG Mv LJ sS Io bU RT;go_wp2_with fail;refine Zg HJ.o ?_;rintro e w5 ⟨rfl,bP⟩;go_wp2_with fail;go_roundg gh'
         case measure=>omega
         case rel=>exact⟨k+1,by go_num,by omega,by omega,lU.o.trans (bP.mono lU.o.size),WC.o⟩
       .have kj:¬(k:Zh)<(cs1.length:Zh):=by omega
        have gQ:XX (gI u=.ok r.1):=by
         show _=_;rw[q8.o,tt,Za (λe=>e HK.o),sc.o,Za (by simp),Za];have mc:=Ow.o.length;rw[tG.o,Zd.drop_of_length_le (by omega),mz];simp
        have WZ:XX (NP wr (λm=>w.heap.size<=m) r.1 (.iface tx vx)):=NP.keep (λm hm ai=>⟨lU.o.block m ai,hm⟩) _ _ WY.o;go_wp2_with fail;go_ret2;refine⟨_,_,rfl,bq.o,?_⟩;show nR _ _ _ _ _ _ _ _ _ _;unfold nR;rw[gQ.o];exact⟨rfl,WZ.o⟩
    .have wK:XX (gI u=.error (0,6)):=by show _=_;rw[q8.o,tt,Za (λe=>e HK.o),<-wN.o,Zc rfl]
     go_wp2_with fail;refine Zg HN.o ?_;rintro e w3 ⟨v3,rfl,ap,ti,_⟩;rw[aI];have bo:XX (Zb w.heap.size w w3):=aY.o.trans (ap.mono aY.o.size);have bm:=fj.o.below ap;obtain⟨z0,z1,z2,z3,z4,zf⟩:=jF bm.blk;have cLa:=(HS.o.below bo.o).sents.cLa;clear ap bm z0 z1 z2 zf z4;rcases ti with rfl|⟨tv,xv,rfl⟩
     all_goals
      go_wp2_with fail;go_quiet (fail);go_wp2;go_ret2;refine⟨_,_,rfl,jI bo.o _,?_⟩;show nR _ _ _ _ _ _ _ _ _ _;unfold nR;rw[wK.o];exact⟨rfl,rfl⟩
   .have wK:XX (gI u=.error (bE T r.2,2)):=by show _=_;rw[q8.o,tt,Zc (by rw[O6.o];exact λe=>fg (dh.2 e))]
    have e1:(kd==1)=Zn:=ZP.2 fg;have n1:(kd != 1)=Zo:=bne_iff_ne.2 fg;clear dh fg;rcases hx with rfl|⟨tx,vx,rfl⟩
    all_goals
     go_wp2_with fail;refine Zg HN.o ?_;rintro e w3 ⟨v3,rfl,ap,ti,_⟩;rw[aI];have bo:XX (Zb w.heap.size w w3):=aY.o.trans (ap.mono aY.o.size);have Gp:=aa (HW.o w3 ap);clear ap;rcases ti with rfl|⟨tv,xv,rfl⟩
     all_goals
      go_wp2_with fail;refine Zg Gp.o ?_;rintro e w4 ⟨rfl,aB⟩;rw[aG];go_wp2_with fail;go_ret2;refine⟨_,_,rfl,bo.o.trans (aB.mono bo.o.size),?_⟩;show nR _ _ _ _ _ _ _ _ _ _;unfold nR;rw[wK.o];exact⟨rfl,rfl⟩
end
section
variable {L S N A J La:Zp}
theorem aco(k:Ze)(w:Zj)(h:mw w L S N A J La):
 Zf prog 11 #[aG S k] w λe w'=>e=.returned (.int .i64 2)/\Zb w.heap.size w w':=by
 have jG:XX (mw w L S N A J La):=h;have c0:=h.cL;have gU:XX (∀b W,S≠b->(∃c t,W.heap[S.block]?=O (.cells c t (0,0)))->(∃c t,W.heap[b.block]?=O (.cells c t (0,0)))->Zf prog 21 #[aG S k,.iface 279 (.pointer (O b))] W λe w'=>e=.returned (.bool Zn)/\Zb W.heap.size W w'):=λb W h1 h2 h3=>Iu k S b W h1 h2 h3
 have dV:XX (∀W,Zf prog 21 #[aG S k,.iface 279 (.pointer (O S))] W λe w'=>e=.returned (.bool Zo)/\Zb W.heap.size W w'):=λW=>ME k S W
 have j9:XX (S≠L):=by
  obtain⟨h1,h2,h3,h4,h5,h6,h7,h8,h9,lp,pS,fD,mB,vn,sF⟩:=h.ne;exact λe=>h1 e.symm
 obtain⟨E,hE⟩:∃E,E=aG S k:=⟨_,rfl⟩
 rw[<-hE]at gU dV⊢;clear h hE;go_enter func11,ntmps11;go_wp2_with fail;refine(gU.o L w j9.o jG.o.bS jG.o.bL).mono ?_;rintro e w1 ⟨rfl,ae⟩;have eM:XX (mw w1 L S N A J La):=jG.o.below ae;have c1:=eM.o.cS;clear c0;go_wp2_with fail;refine(dV.o w1).mono ?_;rintro e w9 ⟨rfl,jd⟩;clear c1;go_wp2_with fail;go_ret;have e1:=ae.size;exact⟨rfl,ae.trans (jd.mono (by omega))⟩
theorem acn(k:Ze)(w:Zj)(h:mw w L S N A J La):
 Zf prog 11 #[aG N k] w λe w'=>e=.returned (.int .i64 3)/\Zb w.heap.size w w':=by
 have jG:XX (mw w L S N A J La):=h;have c0:=h.cL;have gU:XX (∀b W,N≠b->(∃c t,W.heap[N.block]?=O (.cells c t (0,0)))->(∃c t,W.heap[b.block]?=O (.cells c t (0,0)))->Zf prog 21 #[aG N k,.iface 279 (.pointer (O b))] W λe w'=>e=.returned (.bool Zn)/\Zb W.heap.size W w'):=λb W h1 h2 h3=>Iu k N b W h1 h2 h3
 have dV:XX (∀W,Zf prog 21 #[aG N k,.iface 279 (.pointer (O N))] W λe w'=>e=.returned (.bool Zo)/\Zb W.heap.size W w'):=λW=>ME k N W
 have j9:XX (N≠L/\N≠S):=by
  obtain⟨h1,h2,h3,h4,h5,h6,h7,h8,h9,lp,pS,fD,mB,vn,sF⟩:=h.ne;exact⟨λe=>h2 e.symm,λe=>h6 e.symm⟩
 obtain⟨E,hE⟩:∃E,E=aG N k:=⟨_,rfl⟩
 rw[<-hE]at gU dV⊢;clear h hE;go_enter func11,ntmps11;go_wp2_with fail;refine(gU.o L w j9.o.1 jG.o.bN jG.o.bL).mono ?_;rintro e w1 ⟨rfl,ae⟩;have eM:XX (mw w1 L S N A J La):=jG.o.below ae;have c1:=eM.o.cS;clear c0;go_wp2_with fail;refine(gU.o S w1 j9.o.2 eM.o.bN eM.o.bS).mono ?_;rintro e w2 ⟨rfl,ah⟩;have fj:XX (mw w2 L S N A J La):=eM.o.below ah;have c2:=fj.o.cN;clear c1;go_wp2_with fail;refine(dV.o w2).mono ?_;rintro e w9 ⟨rfl,jd⟩;clear c2;go_wp2_with fail;go_ret;have e1:=ae.size;have e2:=ah.size;exact⟨rfl,(ae.trans (ah.mono (by omega))).trans (jd.mono (by omega))⟩
theorem ack(k:Ze)(w:Zj)(h:mw w L S N A J La):
 Zf prog 11 #[aG A k] w λe w'=>e=.returned (.int .i64 4)/\Zb w.heap.size w w':=by
 have jG:XX (mw w L S N A J La):=h;have c0:=h.cL;have gU:XX (∀b W,A≠b->(∃c t,W.heap[A.block]?=O (.cells c t (0,0)))->(∃c t,W.heap[b.block]?=O (.cells c t (0,0)))->Zf prog 21 #[aG A k,.iface 279 (.pointer (O b))] W λe w'=>e=.returned (.bool Zn)/\Zb W.heap.size W w'):=λb W h1 h2 h3=>Iu k A b W h1 h2 h3
 have dV:XX (∀W,Zf prog 21 #[aG A k,.iface 279 (.pointer (O A))] W λe w'=>e=.returned (.bool Zo)/\Zb W.heap.size W w'):=λW=>ME k A W
 have j9:XX (A≠L/\A≠S/\A≠N):=by
  obtain⟨h1,h2,h3,h4,h5,h6,h7,h8,h9,lp,pS,fD,mB,vn,sF⟩:=h.ne;exact⟨λe=>h3 e.symm,λe=>h7 e.symm,λe=>lp e.symm⟩
 obtain⟨E,hE⟩:∃E,E=aG A k:=⟨_,rfl⟩
 rw[<-hE]at gU dV⊢;clear h hE;go_enter func11,ntmps11;go_wp2_with fail;refine(gU.o L w j9.o.1 jG.o.bA jG.o.bL).mono ?_;rintro e w1 ⟨rfl,ae⟩;have eM:XX (mw w1 L S N A J La):=jG.o.below ae;have c1:=eM.o.cS;clear c0;go_wp2_with fail;refine(gU.o S w1 j9.o.2.1 eM.o.bA eM.o.bS).mono ?_;rintro e w2 ⟨rfl,ah⟩;have fj:XX (mw w2 L S N A J La):=eM.o.below ah;have c2:=fj.o.cN;clear c1;go_wp2_with fail;refine(gU.o N w2 j9.o.2.2 fj.o.bA fj.o.bN).mono ?_;rintro e w3 ⟨rfl,ap⟩;have jb:XX (mw w3 L S N A J La):=fj.o.below ap;have c3:=jb.o.cA;clear c2;go_wp2_with fail;refine(dV.o w3).mono ?_;rintro e w9 ⟨rfl,jd⟩;clear c3;go_wp2_with fail;go_ret;have e1:=ae.size;have e2:=ah.size;have e3:=ap.size;exact⟨rfl,((ae.trans (ah.mono (by omega))).trans (ap.mono (by omega))).trans (jd.mono (by omega))⟩
theorem TU{p:Ze×Zh}(h:gI u=.error p):p=(0,1)\/p.2=2\/p=(0,6)\/p.2=3\/p.2=4:=by
 by_cases hu:120<u.size
 .rw[gI,Zc hu]at h;injection h with h;exact .inl h.symm
 .rw[Ne hu]at h;cases hR:fm (toks u) (bV (toks u) 12) 3 0 with
  |error b=>rw[hR,tt]at h;injection h with h;rw[<-h];exact .inr (.inl rfl)
  |ok x=>
   rw[hR,tt]at h;by_cases h1:(bp (toks u) x.2).kind≠101
   .rw[Zc h1]at h;injection h with h;rw[<-h];exact .inr (.inl rfl)
   rw[Za h1]at h;by_cases h2:eN x.1=Zo
   .rw[Zc h2]at h;injection h with h;rw[<-h];exact .inr (.inr (.inl rfl))
   rw[Za h2]at h;by_cases h3:(iZ x.1).2≠0
   .rw[Zc h3]at h;injection h with h;rw[<-h];rw[Of]at h3⊢;obtain⟨y,Fh,SV⟩:∃y,(ll y).2≠0/\mz (gC x.1)=ll y:=by
     generalize gC x.1=l at h3
     induction l with
     |nil=>exact Zq rfl h3
     |cons z m ih=>
      rw[mz]at h3⊢;by_cases hz:(ll z).2≠0
      .exact⟨z,hz,Zc hz⟩
      .rw[Za hz]at h3⊢;exact ih h3
    rw[SV];exact .inr (.inr (.inr (Pv y Fh)))
   .rw[Za h3]at h;cases h
theorem TY{x:Nd}(h:gI u=.ok x):wZ x:=by
 refine⟨ag0 h,?_,TX h,?_⟩
 all_goals
  by_cases hu:120<u.size
  .rw[gI,Zc hu]at h;cases h
  rw[Ne hu]at h;cases hR:fm (toks u) (bV (toks u) 12) 3 0 with
  |error b=>rw[hR,tt]at h;cases h
  |ok y=>
   rw[hR,tt]at h;by_cases h1:(bp (toks u) y.2).kind≠101
   .rw[Zc h1]at h;cases h
   rw[Za h1]at h;by_cases h2:eN y.1=Zo
   .rw[Zc h2]at h;cases h
   rw[Za h2]at h;by_cases h3:(iZ y.1).2≠0
   .rw[Zc h3]at h;cases h
   .rw[Za h3]at h;injection h with h;rw[<-h]
    first
    |exact(by simpa using h2)
    |exact(by simpa using h3)
theorem Uf(u:Zk)(w:Zj)(hS:fw w L S N A J La)(hsyn:w.heap[2]?=O (.cells #[.iface 279 (.pointer (O S))] 29 (0,0)))(az:∀x,gI u=.ok x->(gZ x).length<=3000000000):
 Zf prog 7 #[.string u] w λe w'=>e=.returned (.tuple #[.string (bs (oN u).1),.int .i64 (oN u).2.1,.int .i64 (oN u).2.2])/\Zb w.heap.size w w':=by
 have HQ:=aa (agY u w hS hsyn);have HH:=aa hS;clear hS hsyn;cases hP:gI u with
 |ok x=>
  have HR:XX (oN u=(gZ x,0,0)):=by show _=_;rw[oN,hP]
  have HL:=aa (az x hP);have HT:=aa (TY hP);unfold nR at HQ;rw[hP]at HQ;simp only at HQ;rw[HR.o];clear hP HR az;go_enter func7,ntmps7;go_wp2_with fail;refine Zg HQ.o ?_;rintro e w1 ⟨v,er,rfl,ae,ht⟩;obtain⟨he,kP⟩:=ht.o;subst he;have HC:=aa (ajT (HH.o.below ae) kP HT.o HL.o);obtain⟨tv,vv,hv⟩:=kP.isif;subst hv;have aT:=aa ae;clear ht kP ae;go_wp2_with fail;refine Zg HC.o ?_;rintro e w2 ⟨rfl,ah⟩;go_wp2_with fail;go_ret3;exact⟨rfl,aT.o.trans (ah.mono aT.o.size)⟩
 |error p=>
  have HR:XX (oN u=([],p.1,p.2)):=by show _=_;rw[oN,hP]
  have hk:=TU hP;unfold nR at HQ;rw[hP]at HQ;simp only at HQ;rw[HR.o];have q8:XX (∀W,fw W L S N A J La->∃te ve,GF L S N A La p=.iface te ve/\Zf prog 10 #[.iface te ve] W (λe w'=>e=.returned (.int .i64 p.1)/\Zb W.heap.size W w')/\∀W2,fw W2 L S N A J La->Zf prog 11 #[.iface te ve] W2 λe w'=>e=.returned (.int .i64 p.2)/\Zb W2.heap.size W2 w'):=λW hW=>by
   obtain⟨p1,p2⟩:=p;simp only at hk;rcases hk with h|h|h|h|h
   .injection h with h1 h2;subst h1;subst h2;exact⟨_,_,rfl,T2 L W hW.errT,λW2 h2=>(acm W2 h2.sents).mono (λe w' ⟨q1,q2⟩=>⟨q1,by rw[q2];exact Zt _ _⟩)⟩
   .subst h;exact⟨_,_,rfl,Nk p1 S W hW.errT,λW2 h2=>aco p1 W2 h2.sents⟩
   .injection h with h1 h2;subst h1;subst h2;exact⟨_,_,rfl,T2 La W hW.errT,λW2 h2=>(acl W2 h2.sents).mono (λe w' ⟨q1,q2⟩=>⟨q1,by rw[q2];exact Zt _ _⟩)⟩
   .subst h;exact⟨_,_,rfl,Nk p1 N W hW.errT,λW2 h2=>acn p1 W2 h2.sents⟩
   .subst h;exact⟨_,_,rfl,Nk p1 A W hW.errT,λW2 h2=>ack p1 W2 h2.sents⟩
  clear hP az hk HR;go_enter func7,ntmps7;go_wp2_with fail;refine Zg HQ.o ?_;rintro e w1 ⟨v,er,rfl,ae,ht⟩;obtain⟨hv,he⟩:=ht.o;subst hv;obtain⟨te,ve,SD,em,LK⟩:=q8.o w1 (HH.o.below ae);rw[SD]at he;subst he;have Dw:=aa em;have Dh:=aa LK;have aT:=aa ae;clear ht SD em LK ae;go_wp2_with fail;refine Zg Dw.o ?_;rintro e w2 ⟨rfl,ah⟩;have aY:=aa (aT.o.trans (ah.mono aT.o.size));clear ah;go_wp2_with fail;refine Zg (Dh.o w2 (HH.o.below aY.o)) ?_;rintro e w3 ⟨rfl,ap⟩;go_wp2_with fail;go_ret3;exact⟨rfl,aY.o.trans (ap.mono aY.o.size)⟩
end
theorem TW(w:Zj)(iQ:u.size<=Zr){x:Nd}(h:gI u=.ok x):(gZ x).length<=1000000000:=by
 obtain⟨e,w',fr,⟨p,a,er,_,_,hp⟩,_⟩:=TT u w iQ [];have hp:=hp.o;unfold ow at hp;rw[h]at hp;exact Zx (NE x hp.2.2.nvt) (TX h)
theorem aij(u:Zk)(w:Zj)(iQ:u.size<=Zr):
 Zf prog 16 #[.string u] w λe w'=>e=.returned (.tuple #[.string (bs (oN u).1),.int .i64 (oN u).2.1,.int .i64 (oN u).2.2])/\Zb w.heap.size w w':=by
 have HQ:=aa (TT u w iQ);cases hP:gI u with
 |ok x=>
  have HR:XX (oN u=(gZ x,0,0)):=by show _=_;rw[oN,hP]
  have HT:=aa (TY hP);unfold ow at HQ;rw[hP]at HQ;simp only at HQ;rw[HR.o];clear hP HR;go_enter func16,ntmps16;go_wp2_with fail;refine Zg HQ.o ?_;rintro e w1 ⟨p,a,er,rfl,ae,hp⟩;obtain⟨ha,he,hn⟩:=hp.o;subst ha;subst he;have HC:=aa (UK x w1 _ p hn HT.o.1 HT.o.2.1 HT.o.2.2.1);have aT:=aa ae;clear hp hn ae;go_wp2_with fail;refine Zg HC.o ?_;rintro e w2 ⟨rfl,ah⟩;go_wp2_with fail;go_ret3;exact⟨rfl,aT.o.trans (ah.mono aT.o.size)⟩
 |error p=>
  have HR:XX (oN u=([],p.1,p.2)):=by show _=_;rw[oN,hP]
  have hk:=TU hP;have bj:p.2≠0:=by
   rcases hk with h|h|h|h|h
   .rw[h];decide
   .omega
   .rw[h];decide
   .omega
   .omega
  unfold ow at HQ;rw[hP]at HQ;simp only at HQ;rw[HR.o];obtain⟨p1,p2⟩:=p;simp only at HQ bj⊢;have n1:(p2 != 0)=Zo:=bne_iff_ne.2 bj;have n2:(p2==0)=Zn:=ZP.2 bj;clear hP HR hk bj;go_enter func16,ntmps16;go_wp2_with fail;refine Zg HQ.o ?_;rintro e w1 ⟨p,a,er,rfl,ae,hp⟩;obtain⟨BV,ha,he⟩:=hp.o;subst BV;subst ha;subst he;clear hp;go_wp2_with fail;go_ret3;exact⟨rfl,ae⟩
theorem acA:oN ⟨#[97,46,98,91,48,93,32,124,32,99]⟩=([40,124,32,40,46,32,46,34,97,34,32,46,34,98,34,32,91,48,93,41,32,46,34,99,34,41],0,0):=by kernel_rfl
section
variable {L S N A J La:Zp}
def yO(w:Zj)(S:Zp):Prop:=w.heap[2]?=O (.cells #[.iface 279 (.pointer (O S))] 29 (0,0))
theorem yO.below{w':Zj}(h:yO w S)(hb:Zb w.heap.size w w'):yO w' S:=(hb.block _ (al h)).trans h
theorem agf(s:Zk)(w:Zj)(iQ:s.size<=Zr)(h:fw w L S N A J La)(hy:yO w S):
 Zf prog 8 #[.string s] w λe w'=>e=.returned (.bool Zo)/\Zb w.heap.size w w':=by
 obtain⟨t,p,c,uv⟩:∃t p c,oN s=(t,p,c):=⟨_,_,_,rfl⟩
 have gU:XX (Zf prog 7 #[.string s] w λe w'=>e=.returned (.tuple #[.string (bs t),.int .i64 p,.int .i64 c])/\Zb w.heap.size w w'):=by have:=Uf s w h hy (λx hx=>Zx (TW w iQ hx) (by omega));rw[uv]at this;exact this
 have dV:XX (∀W,Zf prog 16 #[.string s] W λe w'=>e=.returned (.tuple #[.string (bs t),.int .i64 p,.int .i64 c])/\Zb W.heap.size W w'):=λW=>by have:=aij s W iQ;rw[uv]at this;exact this
 have ul:=xU (rfl:bs t=bs t);clear h uv iQ hy;go_enter func8,ntmps8;go_wp2_with fail;refine Zg gU.o ?_;rintro e w1 ⟨rfl,ae⟩;go_wp2_with fail;refine(dV.o w1).mono ?_;rintro e w2 ⟨rfl,ah⟩;go_wp2_with fail;go_ret;exact⟨by simp,ae.trans (ah.mono ae.size)⟩
theorem aiF(s:Zk)(w:Zj)(iQ:s.size<=Zr)(h:fw w L S N A J La)(hy:yO w S):
 Zf prog 4 #[.string s] w λe w'=>e=.returned (.bool Zo)/\Zb w.heap.size w w':=by
 have HH:=aa h;have HY:=aa hy;have HM:XX (s.size<=Zr):=iQ;have gU:XX (Zf prog 7 #[.string ⟨#[97,46,98,91,48,93,32,124,32,99]⟩] w λe w'=>e=.returned (.tuple #[.string ⟨#[40,124,32,40,46,32,46,34,97,34,32,46,34,98,34,32,91,48,93,41,32,46,34,99,34,41]⟩,.int .i64 0,.int .i64 0])/\Zb w.heap.size w w'):=by
  have:=Uf ⟨#[97,46,98,91,48,93,32,124,32,99]⟩ w h hy (λx hx=>Zx (TW w (by unfold Zr;decide) hx) (by omega));rw[acA]at this;exact this
 clear h iQ hy;go_enter func4,ntmps4;go_wp2_with fail;refine Zg gU.o ?_;rintro e w1 ⟨rfl,ae⟩;go_wp2_with fail;refine(agf s w1 HM.o (HH.o.below ae) (HY.o.below ae)).mono ?_;rintro e w2 ⟨rfl,ah⟩;go_wp2_with fail;go_ret;exact⟨rfl,ae.trans (ah.mono ae.size)⟩
end
end Go.Proofs.YtdlgkgfeoiohiaaGreatDoor
