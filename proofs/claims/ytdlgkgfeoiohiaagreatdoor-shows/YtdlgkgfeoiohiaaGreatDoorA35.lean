/- Part 35. -/
import Derived.Test.YtdlgkgfeoiohiaaGreatDoorA28
import Derived.Test.YtdlgkgfeoiohiaaGreatDoorA29
open Bool renaming false -> O,true -> Zi,eq_false_iff -> ZE,false_and -> ZG,or_eq_false_iff -> ZH,true_and -> ZI
open Go renaming World -> Zl,Calls -> Zo,Value -> Zt,asAddr -> Zu,bodyPost_ret -> Zv
open Go.Calls renaming mono -> ZA
open Go.Lib renaming hasPrefix -> Zn,trimPrefix -> Zp
open Go.RowKit renaming Below -> Ze
open Go.RowKit.Below renaming refl -> Zq
open Go.World renaming cell? -> Zw
open Go.World.ownsRow renaming cells -> ZU
open List renaming map_cons -> Zy,forall_mem_cons -> ZB,isPrefixOf_iff_prefix -> ZC,drop_eq_getElem_cons -> ZJ,find?_some -> ZK,getElem?_eq_getElem -> ZL,getElem?_eq_some_iff -> ZM,isEmpty_iff -> ZN,length_append -> ZO,length_map -> ZP,mem_of_find?_eq_some -> ZQ
open Nat renaming le_refl -> Zj
open Option renaming some -> Zb,none -> Zd
open _root_ renaming List -> Za,Int -> Zc,ByteArray -> Zf,Nat -> Zg,if_neg -> Zh,UInt8 -> Zk,if_pos -> Zm,Bool -> Zr,decide_eq_false -> Zx,beq_eq_false_iff_ne -> Zz,decide_eq_true -> ZD
namespace Go.Proofs.YtdlgkgfeoiohiaaGreatDoor
set_option linter.unusedVariables false
set_option maxHeartbeats 16000000
set_option maxRecDepth 100000
open Go.RowKit J Go.Proofs.Tryz
variable {w:Zl}{s:Zf}
theorem OB.bytes{N g c:Zg}{l:Za Zk}(h:OB w N (.slice (Zb ⟨g,0,Zd⟩) l.length c) l):At w g (bs l)/\l.length<=c:=by
 have hc:=ZU h (g:=g) rfl;refine⟨λk hk=>?_,?_⟩
 .have jo:k<l.length:=hk;have:=hc k (.int .u8 ((l[k]'jo).toNat:Zc)) (by simp[bv,ZL jo]);rw[Addr.add_lit]at this;rw[Zg.zero_add]at this;rw[this,pR hk]
  rfl
 .rcases h.2 with⟨e,_⟩|⟨g',cap,cur,e,_,_,q,_⟩
  .cases e
  .injection e with e1 e2 e3;omega
theorem ajZ:pz (bs [])=Zi:=by decide
theorem ah3(w:Zl):Zo prog 184 #[.slice Zd 0 0] w λe w'=>e=.returned (.bool Zi)/\Ze w.heap.size w w':=by
 go_enter func184,ntmps184;go_wp2;go_loopg [0] 1 (λgh s0 wx=>s0=.slice Zd 0 0/\0<gh/\wx=w)
 case atStart=>exact⟨rfl,by omega,rfl⟩
 case round=>
  obtain⟨rfl,h1,rfl⟩:=hrel;go_wp2;go_ret;exact⟨rfl,Zq _ _⟩
theorem ah4(l:Za Zk)(v:Zt)(w:Zl)(N:Zg)(hs:l.length<=1000)(hT:kE w)(h:OB w N v l):
 Zo prog 184 #[v] w λe w'=>e=.returned (.bool (pz (bs l)))/\Ze w.heap.size w w':=by
 rcases h.2 with⟨rfl,hn⟩|⟨g,cap,cur,rfl,_⟩
 .obtain rfl:l=[]:=Za.eq_nil_of_length_eq_zero hn;rw[ajZ];exact ah3 w
 .obtain⟨h1,h2⟩:=OB.bytes h;exact ah2 (bs l) g cap w hs hT h1 h2
def Nx(l:Za Zk):Zt:=if pz (bs l)then aI 5 0 (bs l) 0 .nilIface O else aI 0 0 ⟨#[]⟩ 0 .nilIface O
theorem ahM(l:Za Zk)(v:Zt)(w:Zl)(N:Zg)(hs:l.length<=1000)(hT:kE w)(h:OB w N v l):
 Zo prog 136 #[v] w λe w'=>e=.returned (Nx l)/\Ze w.heap.size w w':=by
 have dF:XX (Ze w.heap.size w (w.alloc ir)):=(Zq _ w).alloc (Zj _) _;have HO:=aa (h.alloc ir);have HC:=aa (ah4 l v (w.alloc ir) N hs (Utf8Tabs_below hT dF.o) (h.alloc ir));have aL:XX ((w.alloc ir).heap[w.heap.size]?=Zb ir):=aE rfl;unfold Nx;obtain⟨B,hB⟩:∃B,B=pz (bs l):=⟨_,rfl⟩
 rw[<-hB]at HC⊢;unfold ir at dF HO HC aL;clear h hT hB;obtain⟨W,hW⟩:∃W,W=w.alloc (.cells #[.int .i64 0,.int .i64 0,.string ⟨#[]⟩,.int .i64 0,.nilIface,.bool O] 63):=⟨_,rfl⟩
 cases B
 .go_enter func136,ntmps136;go_wp2_with fail;refine ZA HC.o ?_;rintro e w1 ⟨rfl,ae⟩;have h1:=(ae.block _ (al aL.o)).trans aL.o;obtain⟨s0,s1,s2,s3,s4,s5,sf⟩:=rR h1;have H1:=aa h1;have aT:=aa (dF.o.trans (ae.mono dF.o.size));clear h1 ae;go_wp2;have hl:=it w.heap.size _ _ _ _ _ _ _ (mW (.int .i64 0) (.int .i64 0) (.string ⟨#[]⟩) (.int .i64 0) .nilIface (.bool O) H1.o);unfold jr at hl;refine Zv (v:=aI 0 0 ⟨#[]⟩ 0 .nilIface O) ?_ rfl ?_
  .simp[results,results136,aI,Zu,hl]
  .exact⟨rfl,CC (.int .i64 0) (.int .i64 0) (.string ⟨#[]⟩) (.int .i64 0) .nilIface (.bool O) aT.o (Zj _)⟩
 .go_enter func136,ntmps136;go_wp2_with fail;refine ZA HC.o ?_;rintro e w1 ⟨rfl,ae⟩;have h1:=(ae.block _ (al aL.o)).trans aL.o;obtain⟨s0,s1,s2,s3,s4,s5,sf⟩:=rR h1;have H1:=aa h1;have aT:=aa (dF.o.trans (ae.mono dF.o.size));have oU:(convert 49 9 v).run prog w1=.ok (.string ⟨l.toArray⟩) w1:=ua (Aa HO.o ae);clear h1 ae;go_wp2;have hl:=it w.heap.size _ _ _ _ _ _ _ (mW (.int .i64 5) (.int .i64 0) (.string ⟨l.toArray⟩) (.int .i64 0) .nilIface (.bool O) H1.o);unfold jr at hl;refine Zv (v:=aI 5 0 (bs l) 0 .nilIface O) ?_ rfl ?_
  .simp[results,results136,aI,Zu,hl,bs]
  .exact⟨rfl,CC (.int .i64 5) (.int .i64 0) (.string ⟨l.toArray⟩) (.int .i64 0) .nilIface (.bool O) aT.o (Zj _)⟩
def FB(R:Za Zk×Zg):aj×Zg:=if R.2=0 then(lC,0)else(⟨114,bs R.1,0,Zd⟩,R.2)
def Km(R:Za Zk×Zg)(w:Zl)(e:Ending)(w':Zl):Prop:=
 ∃t,∃z:Zg,e=.returned (.tuple #[t,.int .i64 z])/\(z=(FB R).2\/(FB R).1.kind=120)/\Ze w.heap.size w w'/\XX (jT w' (λm=>w.heap.size<=m) (FB R).1 0 t)
theorem ajC{u:Zf}(h:gb u 0=39):aD u=FB (oL u):=by
 rw[FB,aD,Zh (by rw[h];decide),Zh (by omega),Zm h]
theorem ahN:Gy:=by
 intro u w hs h0 hq hT;unfold A6;rw[ajC hq];show Zo _ _ _ _ (λe w'=>Km (oL u) w e w');obtain⟨R,hR⟩:∃R,R=oL u:=⟨_,rfl⟩
 have HR:XX (iX u (u.size+1) 1 []=R):=hR.symm;rw[<-hR];have HT:=aa hT;clear hR hq hT;obtain⟨W,hW⟩:∃W,W=w.alloc ir:=⟨_,rfl⟩
 have aL:XX (W.heap[w.heap.size]?=Zb (.cells #[.int .i64 0,.int .i64 0,.string ⟨#[]⟩,.int .i64 0,.nilIface,.bool O] 63 (0,0))):=by show _=_;rw[hW];exact aE rfl
 have bB:XX (Ze w.heap.size w W):=by show Ze _ _ _;rw[hW];exact(Zq _ w).alloc (Zj _) _
 have lr:W.heap.size=w.heap.size+1:=by rw[hW];simp
 obtain⟨N,hN⟩:∃N,N=w.heap.size+1:=⟨_,rfl⟩
 have hNa:w.heap.size+1<=N:=by omega
 have Hi:N<=w.heap.size+1:=by omega
 have rc:=aa lr;have ga:XX (R=([],0)->∀wr,Ze w.heap.size w wr->Km R w (.returned (.tuple #[aI 0 0 ⟨#[]⟩ 0 .nilIface O,.int .i64 0])) wr):=λe wr hb=>by
  subst e;exact⟨_,0,rfl,.inl rfl,hb,jT.plain (kind:=120) (by decide)⟩
 clear hN lr;unfold ir at hW;go_enter func87,ntmps87;go_wp2_with fail;go_loopg [4,5] (u.size+1) (λg ov iv wr=>Ze N W wr/\N<=wr.heap.size/\∃i acc,1<=i/\i<=u.size/\u.size<i+g/\iv=.int .i64 (i:Zg)/\acc.length<=i/\OB wr N ov acc/\iX u g i acc=R)
 case atStart=>subst hW;exact⟨Zq _ _,by simp;omega,1,[],by omega,by omega,by omega,rfl,by simp,OB.nil _ _,HR.o⟩
 case round=>
  obtain⟨ba,aH,i,acc,aU,dL,RS,rfl,zk,am,hF⟩:=hrel;obtain⟨f,rfl⟩:∃f,gk=f+1:=⟨gk-1,by omega⟩
  have HF:XX (iX u (f+1) i acc=R):=hF;have fd:=tX ba (by omega) aL.o;have qt:=aa fd;have wG:XX (Ze w.heap.size w wr):=bB.o.trans (ba.mono (by omega));obtain⟨t0,t1,t2,t3,t4,t5,tf⟩:=rR fd;have wE:=aa ba;have d6:XX (R=([],0)->Km R w (.returned (.tuple #[aI 0 0 ⟨#[]⟩ 0 .nilIface O,.int .i64 0])) (jr wr w.heap.size (.int .i64 0) (.int .i64 0) (.string ⟨#[]⟩) (.int .i64 0) .nilIface (.bool O))):=λe=>ga.o e _ (CC _ _ _ _ _ _ wG.o (Zj _))
  clear hF HR fd ga ba;by_cases dy:i=u.size
  .have ig:XX (R=([],0)):=by show _=_;rw[<-HF.o,iX,nS (by omega),Zm (by decide)]
   have ai:¬((i:Zc)<(u.size:Zc)):=by omega
   clear dy;go_wp2;have hl:=it w.heap.size _ _ _ _ _ _ _ (mW (.int .i64 0) (.int .i64 0) (.string ⟨#[]⟩) (.int .i64 0) .nilIface (.bool O) qt.o);unfold jr at hl;exact Zv (v:=.tuple #[aI 0 0 ⟨#[]⟩ 0 .nilIface O,.int .i64 0]) (by simp[results,results87,aI,Zu,hl]) rfl (d6.o ig.o)
  .have fX:i<u.size:=by omega
   have jn:=ew fX;clear dy;by_cases h39:gb u i=39
   .have e39:(((u[i]'fX).toNat:Zc)==39)=Zi:=by rw[<-jn,h39];rfl
    have ig:XX (R=if pz (bs acc)then(acc,i+1)else([],0)):=by show _=_;rw[<-HF.o,iX,Zh (by omega),Zm h39]
    have HC:=aa (ahM acc u4 wr N (by omega) (Utf8Tabs_below HT.o wG.o) am);have O0:XX (Nx acc=if pz (bs acc)then aI 5 0 (bs acc) 0 .nilIface O else aI 0 0 ⟨#[]⟩ 0 .nilIface O):=rfl;obtain⟨tv,th⟩:∃tv,tv=pz (bs acc):=⟨_,rfl⟩
    rw[<-th]at ig O0;clear h39 jn am th HF d6 t0 t1 t2 t3 t4 t5 tf;go_wp2_with fail;refine ZA HC.o ?_;rintro e w1 ⟨rfl,ae⟩;have cV:=tX ae (al qt.o) qt.o;obtain⟨s0,s1,s2,s3,s4,s5,sf⟩:=rR cV;have lh:=aa cV;have aT:XX (Ze w.heap.size w w1):=wG.o.trans (ae.mono (Zg.le_of_lt (al qt.o)));clear cV ae;rw[O0.o];cases tv
    .rw[Zh (by simp)]at ig⊢;rw[aI];go_wp2;have hl:=it w.heap.size _ _ _ _ _ _ _ (mW (.int .i64 0) (.int .i64 0) (.string ⟨#[]⟩) (.int .i64 0) .nilIface (.bool O) lh.o);unfold jr at hl;refine Zv (v:=.tuple #[aI 0 0 ⟨#[]⟩ 0 .nilIface O,.int .i64 ((i:Zc)+1)]) (by simp[results,results87,aI,Zu,hl]) rfl ?_;have hr:=ig.o;subst hr;exact⟨_,i+1,rfl,.inr rfl,CC (.int .i64 0) (.int .i64 0) (.string ⟨#[]⟩) (.int .i64 0) .nilIface (.bool O) aT.o (Zj _),jT.plain (kind:=120) (by decide)⟩
    .rw[Zm rfl]at ig⊢;rw[aI];go_wp2;have hl:=it w.heap.size _ _ _ _ _ _ _ (mW (.int .i64 5) (.int .i64 0) (.string (bs acc)) (.int .i64 0) .nilIface (.bool O) lh.o);unfold jr at hl;refine Zv (v:=.tuple #[aI 5 0 (bs acc) 0 .nilIface O,.int .i64 ((i:Zc)+1)]) (by simp[results,results87,aI,Zu,hl]) rfl ?_;have hr:=ig.o;subst hr;exact⟨_,i+1,rfl,.inl rfl,CC (.int .i64 5) (.int .i64 0) (.string (bs acc)) (.int .i64 0) .nilIface (.bool O) aT.o (Zj _),jT.plain (kind:=114) (by decide)⟩
   .have e39:(((u[i]'fX).toNat:Zc)==39)=O:=by rw[<-jn];exact Zz.2 h39
    by_cases h92:gb u i=92
    .have e92:(((u[i]'fX).toNat:Zc)==92)=Zi:=by rw[<-jn,h92];rfl
     by_cases iC:gb u (i+1)=39\/gb u (i+1)=92
     .have kh:i+1<u.size:=cC (by omega);have ja:XX (iX u f (i+2) (acc++[u[i+1]'kh])=R):=by show _=_;rw[<-HF.o,iX,Zh (by omega),Zh h39,Zm h92,Zm iC,Jg kh]
      have e1:(((i:Zc)+1)==(u.size:Zc))=O:=Zz.2 (by omega);rw[ew kh]at iC;have aej:(((u[i+1]'kh).toNat:Zc) != 39)=O\/((((u[i+1]'kh).toNat:Zc) != 39)=Zi/\(((u[i+1]'kh).toNat:Zc) != 92)=O):=by
       rcases iC with q|q
       .exact .inl (by rw[q];rfl)
       .exact .inr ⟨by rw[q];rfl,by rw[q];rfl⟩
      clear h39 h92 jn HF d6 iC;rcases aej with e2|⟨e2,e3⟩
      all_goals
       go_wp2_with (at_builtin;refine dz rfl (.tmp 42) (.tmp 46) rfl N _ acc rfl ?h1 _ _ _ [u[i+1]'kh] rfl rfl ?h2 ?h3 ?h4 ?_)
       case h1=>exact am.alloc _
       case h2=>exact cX rfl _ _ rfl
       case h3=>simp;omega
       case h4=>simp;omega
       intro v3 w3 bz aP;have dr:Ze N wr w3:=((Zq N wr).alloc aH _).grown aP (by simp;omega) am.below;have eC:N<=w3.heap.size:=by have:=aP.size;simp at this;omega
       clear aP t0 t1 t2 t3 t4 t5 tf;go_wp2;go_roundg f
       case measure=>omega
       case rel=>exact⟨wE.o.trans dr,eC,i+2,acc++[u[i+1]'kh],by omega,by omega,by omega,by go_num,by rw[ZO];simp;omega,bz,ja.o⟩
     .have ig:XX (R=([],0)):=by show _=_;rw[<-HF.o,iX,Zh (by omega),Zh h39,Zm h92,Zh iC]
      rcases(show i+1=u.size\/i+1<u.size from by omega)with hz|hz
      .have e1:(((i:Zc)+1)==(u.size:Zc))=Zi:=beq_iff_eq.2 (by omega);clear iC h39 h92 jn HF;go_wp2;have hl:=it w.heap.size _ _ _ _ _ _ _ (mW (.int .i64 0) (.int .i64 0) (.string ⟨#[]⟩) (.int .i64 0) .nilIface (.bool O) qt.o);unfold jr at hl;exact Zv (v:=.tuple #[aI 0 0 ⟨#[]⟩ 0 .nilIface O,.int .i64 0]) (by simp[results,results87,aI,Zu,hl]) rfl (d6.o ig.o)
      .have e1:(((i:Zc)+1)==(u.size:Zc))=O:=Zz.2 (by omega);rw[ew hz]at iC;have e2:(((u[i+1]'hz).toNat:Zc) != 39)=Zi:=bne_iff_ne.2 (λe=>iC (.inl e));have e3:(((u[i+1]'hz).toNat:Zc) != 92)=Zi:=bne_iff_ne.2 (λe=>iC (.inr e));clear iC h39 h92 jn HF;go_wp2;have hl:=it w.heap.size _ _ _ _ _ _ _ (mW (.int .i64 0) (.int .i64 0) (.string ⟨#[]⟩) (.int .i64 0) .nilIface (.bool O) qt.o);unfold jr at hl;exact Zv (v:=.tuple #[aI 0 0 ⟨#[]⟩ 0 .nilIface O,.int .i64 0]) (by simp[results,results87,aI,Zu,hl]) rfl (d6.o ig.o)
    .have e92:(((u[i]'fX).toNat:Zc)==92)=O:=by rw[<-jn];exact Zz.2 h92
     have ja:XX (iX u f (i+1) (acc++[u[i]'fX])=R):=by show _=_;rw[<-HF.o,iX,Zh (by omega),Zh h39,Zh h92,Jg fX]
     clear h39 h92 jn HF d6;go_wp2_with (at_builtin;refine dz rfl (.tmp 42) (.tmp 46) rfl N _ acc rfl ?h1 _ _ _ [u[i]'fX] rfl rfl ?h2 ?h3 ?h4 ?_)
     case h1=>exact am.alloc _
     case h2=>exact cX rfl _ _ rfl
     case h3=>simp;omega
     case h4=>simp;omega
     intro v3 w3 bz aP;have dr:Ze N wr w3:=((Zq N wr).alloc aH _).grown aP (by simp;omega) am.below;have eC:N<=w3.heap.size:=by have:=aP.size;simp at this;omega
     clear aP t0 t1 t2 t3 t4 t5 tf;go_wp2;go_roundg f
     case measure=>omega
     case rel=>exact⟨wE.o.trans dr,eC,i+1,acc++[u[i]'fX],by omega,by omega,by omega,by go_num,by rw[ZO];simp;omega,bz,ja.o⟩
def qD:Za (Zf×Zf×Zr):=[(⟨#[97,98,115]⟩,⟨#[118]⟩,O),(⟨#[97,118,103]⟩,⟨#[118]⟩,O),(⟨#[99,101,105,108]⟩,⟨#[118]⟩,O),(⟨#[99,111,110,116,97,105,110,115]⟩,⟨#[118,118]⟩,O),(⟨#[101,110,100,115,95,119,105,116,104]⟩,⟨#[118,118]⟩,O),(⟨#[102,108,111,111,114]⟩,⟨#[118]⟩,O),(⟨#[106,111,105,110]⟩,⟨#[118,118]⟩,O),(⟨#[107,101,121,115]⟩,⟨#[118]⟩,O),(⟨#[108,101,110,103,116,104]⟩,⟨#[118]⟩,O),(⟨#[109,97,112]⟩,⟨#[38,118]⟩,O),(⟨#[109,97,120]⟩,⟨#[118]⟩,O),(⟨#[109,97,120,95,98,121]⟩,⟨#[118,38]⟩,O),(⟨#[109,101,114,103,101]⟩,⟨#[118]⟩,Zi),(⟨#[109,105,110]⟩,⟨#[118]⟩,O),(⟨#[109,105,110,95,98,121]⟩,⟨#[118,38]⟩,O),(⟨#[110,111,116,95,110,117,108,108]⟩,⟨#[118]⟩,Zi),(⟨#[114,101,118,101,114,115,101]⟩,⟨#[118]⟩,O),(⟨#[115,111,114,116]⟩,⟨#[118]⟩,O),(⟨#[115,111,114,116,95,98,121]⟩,⟨#[118,38]⟩,O),(⟨#[115,116,97,114,116,115,95,119,105,116,104]⟩,⟨#[118,118]⟩,O),(⟨#[115,117,109]⟩,⟨#[118]⟩,O),(⟨#[116,111,95,97,114,114,97,121]⟩,⟨#[118]⟩,O),(⟨#[116,111,95,110,117,109,98,101,114]⟩,⟨#[118]⟩,O),(⟨#[116,111,95,115,116,114,105,110,103]⟩,⟨#[118]⟩,O),(⟨#[116,121,112,101]⟩,⟨#[118]⟩,O),(⟨#[118,97,108,117,101,115]⟩,⟨#[118]⟩,O)]
def uh:Obj:=.cells #[.string ⟨#[97,98,115]⟩,.string ⟨#[118]⟩,.bool O,.string ⟨#[97,118,103]⟩,.string ⟨#[118]⟩,.bool O,.string ⟨#[99,101,105,108]⟩,.string ⟨#[118]⟩,.bool O,.string ⟨#[99,111,110,116,97,105,110,115]⟩,.string ⟨#[118,118]⟩,.bool O,.string ⟨#[101,110,100,115,95,119,105,116,104]⟩,.string ⟨#[118,118]⟩,.bool O,.string ⟨#[102,108,111,111,114]⟩,.string ⟨#[118]⟩,.bool O,.string ⟨#[106,111,105,110]⟩,.string ⟨#[118,118]⟩,.bool O,.string ⟨#[107,101,121,115]⟩,.string ⟨#[118]⟩,.bool O,.string ⟨#[108,101,110,103,116,104]⟩,.string ⟨#[118]⟩,.bool O,.string ⟨#[109,97,112]⟩,.string ⟨#[38,118]⟩,.bool O,.string ⟨#[109,97,120]⟩,.string ⟨#[118]⟩,.bool O,.string ⟨#[109,97,120,95,98,121]⟩,.string ⟨#[118,38]⟩,.bool O,.string ⟨#[109,101,114,103,101]⟩,.string ⟨#[118]⟩,.bool Zi,.string ⟨#[109,105,110]⟩,.string ⟨#[118]⟩,.bool O,.string ⟨#[109,105,110,95,98,121]⟩,.string ⟨#[118,38]⟩,.bool O,.string ⟨#[110,111,116,95,110,117,108,108]⟩,.string ⟨#[118]⟩,.bool Zi,.string ⟨#[114,101,118,101,114,115,101]⟩,.string ⟨#[118]⟩,.bool O,.string ⟨#[115,111,114,116]⟩,.string ⟨#[118]⟩,.bool O,.string ⟨#[115,111,114,116,95,98,121]⟩,.string ⟨#[118,38]⟩,.bool O,.string ⟨#[115,116,97,114,116,115,95,119,105,116,104]⟩,.string ⟨#[118,118]⟩,.bool O,.string ⟨#[115,117,109]⟩,.string ⟨#[118]⟩,.bool O,.string ⟨#[116,111,95,97,114,114,97,121]⟩,.string ⟨#[118]⟩,.bool O,.string ⟨#[116,111,95,110,117,109,98,101,114]⟩,.string ⟨#[118]⟩,.bool O,.string ⟨#[116,111,95,115,116,114,105,110,103]⟩,.string ⟨#[118]⟩,.bool O,.string ⟨#[116,121,112,101]⟩,.string ⟨#[118]⟩,.bool O,.string ⟨#[118,97,108,117,101,115]⟩,.string ⟨#[118]⟩,.bool O] 114 (0,0)
theorem ahV(w:Zl):Zo prog 92 #[] w λe w'=>e=.returned (.slice (Zb ⟨w.heap.size,0,Zd⟩) 26 26)/\w'=w.alloc uh:=by
 go_enter func92,ntmps92;go_wp2;go_ret;exact⟨rfl,rfl⟩
theorem acV(W:Zl)(g:Zg)(h:W.heap[g]?=Zb uh)(k:Zg)(x:Zf×Zf×Zr)(hx:qD[k]?=Zb x):
 W.cell? ⟨g,k*3,Zd⟩=Zb (.string x.1)/\W.cell? ⟨g,k*3+1,Zd⟩=Zb (.string x.2.1)/\W.cell? ⟨g,k*3+2,Zd⟩=Zb (.bool x.2.2):=by
 have hk:k<26:=(ZM.1 hx).1;unfold uh at h;simp only[Zw,h]
 match k,hk,hx with
 |0,_,hx=>injection hx with hx;subst hx;exact⟨rfl,rfl,rfl⟩
 |1,_,hx=>injection hx with hx;subst hx;exact⟨rfl,rfl,rfl⟩
 |2,_,hx=>injection hx with hx;subst hx;exact⟨rfl,rfl,rfl⟩
 |3,_,hx=>injection hx with hx;subst hx;exact⟨rfl,rfl,rfl⟩
 |4,_,hx=>injection hx with hx;subst hx;exact⟨rfl,rfl,rfl⟩
 |5,_,hx=>injection hx with hx;subst hx;exact⟨rfl,rfl,rfl⟩
 |6,_,hx=>injection hx with hx;subst hx;exact⟨rfl,rfl,rfl⟩
 |7,_,hx=>injection hx with hx;subst hx;exact⟨rfl,rfl,rfl⟩
 |8,_,hx=>injection hx with hx;subst hx;exact⟨rfl,rfl,rfl⟩
 |9,_,hx=>injection hx with hx;subst hx;exact⟨rfl,rfl,rfl⟩
 |10,_,hx=>injection hx with hx;subst hx;exact⟨rfl,rfl,rfl⟩
 |11,_,hx=>injection hx with hx;subst hx;exact⟨rfl,rfl,rfl⟩
 |12,_,hx=>injection hx with hx;subst hx;exact⟨rfl,rfl,rfl⟩
 |13,_,hx=>injection hx with hx;subst hx;exact⟨rfl,rfl,rfl⟩
 |14,_,hx=>injection hx with hx;subst hx;exact⟨rfl,rfl,rfl⟩
 |15,_,hx=>injection hx with hx;subst hx;exact⟨rfl,rfl,rfl⟩
 |16,_,hx=>injection hx with hx;subst hx;exact⟨rfl,rfl,rfl⟩
 |17,_,hx=>injection hx with hx;subst hx;exact⟨rfl,rfl,rfl⟩
 |18,_,hx=>injection hx with hx;subst hx;exact⟨rfl,rfl,rfl⟩
 |19,_,hx=>injection hx with hx;subst hx;exact⟨rfl,rfl,rfl⟩
 |20,_,hx=>injection hx with hx;subst hx;exact⟨rfl,rfl,rfl⟩
 |21,_,hx=>injection hx with hx;subst hx;exact⟨rfl,rfl,rfl⟩
 |22,_,hx=>injection hx with hx;subst hx;exact⟨rfl,rfl,rfl⟩
 |23,_,hx=>injection hx with hx;subst hx;exact⟨rfl,rfl,rfl⟩
 |24,_,hx=>injection hx with hx;subst hx;exact⟨rfl,rfl,rfl⟩
 |25,_,hx=>injection hx with hx;subst hx;exact⟨rfl,rfl,rfl⟩
theorem QE(b:Zg)(x0 x1 x2:Zt)(W:Zl)(hb:W.heap[b]?=Zb (.cells #[x0,x1,x2] 114 (0,0))):(loadVar 114 ⟨b,0,Zd⟩).run prog W=.ok (.agg #[x0,x1,x2]) W:=by
 have c0:W.cell? ⟨b,0,Zd⟩=Zb x0:=by simp[Zw,hb]
 have c1:W.cell? ⟨b,1,Zd⟩=Zb x1:=by simp[Zw,hb]
 have c2:W.cell? ⟨b,2,Zd⟩=Zb x2:=by simp[Zw,hb]
 simp[loadVar,isAgg,underlying,underlying114,loadCells,loadCellsFrom,Addr.add,c0,c1,c2,Result.andThen]
theorem xg{W:Zl}{b:Zg}{x0 x1 x2:Zt}(hb:W.heap[b]?=Zb (.cells #[x0,x1,x2] 114 (0,0))):W.cell? ⟨b,0,Zd⟩=Zb x0/\W.cell? ⟨b,1,Zd⟩=Zb x1/\W.cell? ⟨b,2,Zd⟩=Zb x2/\∀o,W.frozen? ⟨b,o,Zd⟩=O:=by
 refine⟨?_,?_,?_,λo=>?_⟩ <;> simp[Zw,Zl.frozen?,hb]
def NC(w:Zl)(m:Zg)(x0 x1 x2:Zt):Zl:=((w.setCell ⟨m,0,Zd⟩ x0).setCell ⟨m,1,Zd⟩ x1).setCell ⟨m,2,Zd⟩ x2
theorem UG{m:Zg}{y0 y1 y2:Zt}{t:TypeId}(x0 x1 x2:Zt)(h:w.heap[m]?=Zb (.cells #[y0,y1,y2] t (0,0))):(NC w m x0 x1 x2).heap[m]?=Zb (.cells #[x0,x1,x2] t (0,0)):=by
 have h1:=cY (o:=0) h x0;have h2:=cY (o:=1) h1 x1;exact cY (o:=2) h2 x2
def yY(r:Option (Zf×Zf×Zr)):Zt:=match r with
 |some x=>.tuple #[.agg #[.string x.1,.string x.2.1,.bool x.2.2],.bool Zi]
 |none=>.tuple #[.agg #[.string ⟨#[]⟩,.string ⟨#[]⟩,.bool O],.bool O]
def Ee(s:Zf):Option (Zf×Zf×Zr):=qD.find? (λx=>decide (x.1=s))
theorem ahc(s:Zf)(w:Zl):Zo prog 55 #[.string s] w λe w'=>e=.returned (yY (Ee s))/\Ze w.heap.size w w':=by
 obtain⟨R,hR⟩:∃R,R=Ee s:=⟨_,rfl⟩
 rw[<-hR];have HR:XX (R=(qD.drop 0).find? (λx=>decide (x.1=s))):=hR;have HT:XX (∀W,Zo prog 92 #[] W λe w'=>e=.returned (.slice (Zb ⟨W.heap.size,0,Zd⟩) 26 26)/\w'=W.alloc uh):=ahV;clear hR;obtain⟨W0,Es⟩:∃W0,W0=w.alloc (.cells #[.string ⟨#[]⟩,.string ⟨#[]⟩,.bool O] 114):=⟨_,rfl⟩
 have pT:Ze w.heap.size w W0:=by rw[Es];exact(Zq _ w).alloc (Zj _) _
 have ip:W0.heap.size=w.heap.size+1:=by rw[Es];simp
 have xA:W0.heap[w.heap.size]?=Zb (.cells #[.string ⟨#[]⟩,.string ⟨#[]⟩,.bool O] 114 (0,0)):=by rw[Es];exact aE rfl
 have dF:=aa pT;have Pg:=aa ip;have OY:=aa xA;clear pT ip xA;go_enter func55,ntmps55;go_wp2_with fail;rw[<-Es];refine(HT.o _).mono ?_;rintro e w1 ⟨rfl,rfl⟩;have aT:XX (Ze w.heap.size w (W0.alloc uh)):=dF.o.trans ((Zq _ _).alloc dF.o.size _);have qU:XX ((W0.alloc uh).heap[W0.heap.size]?=Zb uh):=aE rfl;have Gi:XX ((W0.alloc uh).heap[w.heap.size]?=Zb (.cells #[.string ⟨#[]⟩,.string ⟨#[]⟩,.bool O] 114 (0,0))):=cj OY.o;obtain⟨G,hG⟩:∃G,G=W0.heap.size:=⟨_,rfl⟩
 obtain⟨W1,mF⟩:∃W1,W1=W0.alloc uh:=⟨_,rfl⟩
 rw[<-hG]at qU⊢;rw[<-mF]at aT qU Gi⊢;have HGw:XX (w.heap.size<G):=by have:=Pg.o;show _<_;omega
 clear hG mF dF OY Pg HT Es;go_wp2_with fail;go_loopg [8] 27 (λgh s8 wr=>∃k:Zg,s8=.int .i64 k/\k<=26/\26<gh+k/\R=(qD.drop k).find? (λx=>decide (x.1=s))/\Ze w.heap.size w wr/\wr.heap[G]?=Zb uh/\wr.heap[w.heap.size]?=Zb (.cells #[.string ⟨#[]⟩,.string ⟨#[]⟩,.bool O] 114 (0,0)))
 case atStart=>exact⟨0,rfl,by omega,by omega,HR.o,aT.o,qU.o,Gi.o⟩
 case round=>
  obtain⟨k,rfl,hk,mL,hR,hb,hG,hr⟩:=hrel;obtain⟨gh',rfl⟩:∃g,gk=g+1:=⟨gk-1,by omega⟩
  have HB:=aa hb;have yl:=aa hG;have Gl:=aa hr;rcases Zg.lt_or_ge k 26 with h1|h1
  .have kj:(k:Zc)<26:=by omega
   obtain⟨x,hx⟩:∃x,qD[k]?=Zb x:=⟨_,ZL (show k<qD.length from h1)⟩
   obtain⟨y0,y1,y2⟩:=acV wr G hG k x hx;have hd:qD.drop k=x::qD.drop (k+1):=by
    rw[ZJ (show k<qD.length from h1)]
    congr 1
    exact(ZM.1 hx).2
   rw[hd,Za.find?_cons]at hR;obtain⟨x0,x1,x2⟩:=x;simp only at y0 y1 y2;clear hG hr hb hd hx;by_cases hs:x0=s
   .simp only[ZD hs]at hR;have DB:XX (R=Zb (x0,x1,x2)):=hR;have e1:=xU hs;clear hR;have Cc:∀o,(wr.alloc o).heap[w.heap.size]?=Zb (.cells #[.string ⟨#[]⟩,.string ⟨#[]⟩,.bool O] 114 (0,0)):=λo=>cj Gl.o
    have r0:=λo=>(xg (Cc o)).1
    have r1:=λo=>(xg (Cc o)).2.1
    have r2:=λo=>(xg (Cc o)).2.2.1
    have rf:=λo=>(xg (Cc o)).2.2.2
    have HRA:=aa Cc;clear Cc;go_wp2;have hl:=QE w.heap.size _ _ _ _ (UG (.string s) (.string x1) (.bool x2) (HRA.o (.cells #[.string s,.string x1,.bool x2] 114)));refine Zv (v:=yY R) ?_ rfl ?_
    .rw[DB.o];simp only[NC]at hl;simp[results,results55,yY,Zu,hl];exact hs.symm
    .exact⟨rfl,(((HB.o.alloc HB.o.size _).setCell (Zj _) _).setCell (Zj _) _).setCell (Zj _) _⟩
   .simp only[Zx hs]at hR;have DB:=aa hR;have e1:=ww hs;clear hR;go_wp2;go_roundg gh'
    case measure=>omega
    case rel=>exact⟨k+1,by go_num,by omega,by omega,DB.o,HB.o.alloc HB.o.size _,cj yl.o,cj Gl.o⟩
  .have kj:¬(k:Zc)<26:=by omega
   obtain rfl:k=26:=by omega
   have DB:XX (R=Zd):=hR;clear hR hG hr hb;obtain⟨r0,r1,r2,rf⟩:=xg Gl.o;go_wp2;have hl:=QE w.heap.size _ _ _ _ (UG (.string ⟨#[]⟩) (.string ⟨#[]⟩) (.bool O) Gl.o);refine Zv (v:=yY R) ?_ rfl ?_
   .rw[DB.o];simp only[NC]at hl;simp[results,results55,yY,Zu,hl]
   .exact⟨rfl,((HB.o.setCell (Zj _) _).setCell (Zj _) _).setCell (Zj _) _⟩
def FK(x:Zf×Zf×Zr)(t:Za Zk):Zr:=Zn t x.2.1.data.toList&&(if x.2.2 then Lib.trimB (Zp t x.2.1.data.toList) 118 else Zp t x.2.1.data.toList).isEmpty
theorem Ts:∀x∈qD,x.2.2=Zi->x.2.1=⟨#[118]⟩:=by decide
theorem ahW(x:Zf×Zf×Zr)(hx:x∈qD)(t:Za Zk)(w:Zl)(ht:t.length<=1000):
 Zo prog 56 #[.agg #[.string x.1,.string x.2.1,.bool x.2.2],.string ⟨t.toArray⟩] w λe w'=>e=.returned (.bool (FK x t))/\Ze w.heap.size w w':=by
 obtain⟨x0,x1,x2⟩:=x;have hm:=Ts _ hx;simp only at hm⊢;have HC:XX (∀W,Zo prog 93 #[.string ⟨t.toArray⟩,.string x1] W λe w'=>e=.returned (.tuple #[.string ⟨(Zp t x1.data.toList).toArray⟩,.bool (Zn t x1.data.toList)])/\w'=W):=λW=>Tryz.strings_CutPrefix _ _ W
 have yA:XX ((Zp t x1.data.toList).length<=1000):=by
  show _<=_;unfold Zp;split
  .rw[Za.length_drop];omega
  .exact ht
 unfold FK;simp only;obtain⟨B,hB⟩:∃B,B=Zn t x1.data.toList:=⟨_,rfl⟩
 obtain⟨r,hr⟩:∃r,r=Zp t x1.data.toList:=⟨_,rfl⟩
 rw[<-hB,<-hr]at HC⊢;rw[<-hr]at yA;clear hB hr hx;have dF:XX (Ze w.heap.size w (w.alloc (.cells #[.string x0,.string x1,.bool x2] 114))):=(Zq _ w).alloc (Zj _) _;cases B
 .clear hm;cases x2
  all_goals
   go_enter func56,ntmps56;go_wp2_with fail;refine(HC.o _).mono ?_;rintro e w1 ⟨rfl,rfl⟩;go_wp2;go_ret;exact⟨rfl,dF.o⟩
 .rw[ZI];cases x2
  .rw[Zh (by simp)];go_enter func56,ntmps56;go_wp2_with fail;refine(HC.o _).mono ?_;rintro e w1 ⟨rfl,rfl⟩;go_wp2;go_ret;exact⟨rfl,dF.o⟩
  .rw[Zm rfl];have:=hm rfl;subst this;have pM:XX (∀W,Zo prog 94 #[.string ⟨r.toArray⟩,.string ⟨#[118]⟩] W λe w'=>e=.returned (.string ⟨(Lib.trimB r 118).toArray⟩)/\(w'=W\/w'=W.drew)):=λW=>Tryz.strings_Trim_one _ 118 (by decide) W (by have:=yA.o;show r.toArray.size<=_;simp;omega)
   go_enter func56,ntmps56;go_wp2_with fail;refine(HC.o _).mono ?_;rintro e w1 ⟨rfl,rfl⟩;go_wp2_with fail;refine(pM.o _).mono ?_;rintro e w2 ⟨rfl,lO⟩;have aY:XX (Ze w.heap.size w w2):=by
    rcases lO with rfl|rfl
    .exact dF.o
    .exact dF.o.drew
   clear lO;go_wp2;go_ret;exact⟨rfl,aY.o⟩
def iY(y:Nd):Zk:=if y.op=eF then 38 else 118
def xL(b:Zk):Zk:=if b=38 then 38 else 118
set_option maxRecDepth 1000000 in
theorem acW:∀x∈qD,0<(fq x.1).size/\x.2.2=decide (gb (fq x.1) ((fq x.1).size-1)=43)/\(x.2.2=O->x.2.1.data.toList=(fq x.1).data.toList.map xL):=by decide
set_option maxRecDepth 1000000 in
theorem ajk:∀y∈CO,∃x∈qD,x.1=y.1:=by decide
theorem Ps(t:Zf):∀(l:Za Nd) (i:Zg),i+l.length=t.size->(jH O t i l=O↔l.map iY=(t.data.toList.drop i).map xL)
 |[],i,h=>by
  rw[jH,Za.drop_of_length_le (by have:t.data.toList.length=t.size:=rfl;simp at h;omega)];simp
 |y::l,i,h=>by
  have hl:t.data.toList.length=t.size:=rfl;simp at h;have hi:i<t.size:=by omega
  rw[jH,ZJ (by omega),Zy,Zy,ZH,Ps t l (i+1) (by omega),Za.cons.injEq];refine and_congr_left (λ_=>?_);rw[Zh (by simp),pR hi];have e:t.data.toList[i]'(by omega)=t[i]'hi:=rfl;rw[e];unfold iY xL;have hb:(((t[i]'hi).toNat:Zc)=38)↔(t[i]'hi)=38:=by
   constructor
   .intro q;apply Zk.toNat_inj.1
    show _=38;omega
   .intro q;rw[q];rfl
  by_cases h1:y.op=eF <;> by_cases h2:(t[i]'hi)=38 <;> simp[h1,h2,hb]
theorem Pr(t:Zf):∀(l:Za Nd) (i:Zg),jH Zi t i l=O↔∀b∈l.map iY,b=118
 |[],i=>by rw[jH];simp
 |y::l,i=>by
  rw[jH,ZH,Pr t l (i+1),Zy,ZB];refine and_congr_left (λ_=>?_);unfold iY;by_cases h1:y.op=eF <;> simp[h1]
theorem Va(r:Za Zk):(Lib.trimB r 118).isEmpty=Zi↔∀b∈r,b=118:=by
 have hd:∀l:Za Zk,(l.dropWhile (·==118))=[]↔∀b∈l,b=118:=λl=>by
  induction l with
  |nil=>simp
  |cons a l ih=>
   rw[Za.dropWhile_cons];by_cases h:a=118
   .simp[h,ih]
   .simp[h]
 rw[ZN,Lib.trimB,Lib.trimLeftB,hd,Lib.trimRightB];constructor
 .intro h;have h2:r.reverse.dropWhile (·==118)=[]:=by
   cases hq:r.reverse.dropWhile (·==118)with
   |nil=>rfl
   |cons a m=>
    exfalso
    have h3:a=118:=h a (by rw[hq];simp);have h4:=Za.head?_dropWhile_not (·==(118:Zk)) r.reverse;rw[hq]at h4;simp[h3]at h4
  intro b hb;exact(hd _).1 h2 b (by simpa using hb)
 .intro h b hb;have:b∈r.reverse:=(Za.dropWhile_sublist _).mem (by simpa using hb);exact h b (by simpa using this)
theorem ajj{x:Zf×Zf×Zr}(h:Ee s=Zb x)(l:Za Nd):FK x (l.map iY)=decide (gB s l=0)/\(gB s l=0\/gB s l=4):=by
 have hm:=ZQ h;have hs:x.1=s:=by have:=ZK h;simpa using this
 obtain⟨h1,h2,h3⟩:=acW x hm;rw[hs]at h1 h2 h3;rw[gB,Zh (show ¬(fq s).size=0 by omega)];unfold FK;cases hx:x.2.2
 .rw[hx]at h2;have h4:¬gb (fq s) ((fq s).size-1)=43:=by simpa using h2.symm
  rw[Zh (by simp),h3 hx,Zx h4];have hl:((fq s).data.toList.map xL).length=(fq s).size:=by rw[ZP];rfl
  have hp:(Zn (l.map iY) ((fq s).data.toList.map xL)&&(Zp (l.map iY) ((fq s).data.toList.map xL)).isEmpty)=decide (l.map iY=(fq s).data.toList.map xL):=by
   unfold Zp;cases hq:Zn (l.map iY) ((fq s).data.toList.map xL)
   .rw[ZG]
    symm
    apply Zx
    intro e;rw[e]at hq;unfold Zn at hq;rw[ZC.2 (Za.prefix_refl _)]at hq;cases hq
   .rw[ZI,Zm rfl,Zr.eq_iff_iff,ZN,decide_eq_true_iff,Za.drop_eq_nil_iff];have aeW:=ZC.1 hq;constructor
    .intro gW;exact(aeW.eq_of_length_le gW).symm
    .intro e;rw[e];exact Zj _
  rw[hp];by_cases hn:l.length=(fq s).size
  .rw[Zh (by simp[h4,hn])];have hb:=Ps (fq s) l 0 (by omega);rw[Za.drop_zero]at hb;by_cases ha:jH O (fq s) 0 l=Zi
   .rw[Zm ha,Zx (λe=>by have:=hb.2 e;rw[ha]at this;cases this)];exact⟨by decide,.inr rfl⟩
   .rw[Zh ha,ZD (hb.1 (by simpa using ha))];exact⟨by decide,.inl rfl⟩
  .rw[Zm (.inr ⟨h4,hn⟩),Zx (λe=>hn (by have:=congrArg Za.length e;rw[hl,ZP]at this;exact this))];exact⟨by decide,.inr rfl⟩
 .rw[hx]at h2;have h4:gb (fq s) ((fq s).size-1)=43:=by simpa using h2.symm
  rw[Zm rfl,ZD h4,Ts x hm hx];cases l with
  |nil=>
   rw[Zm (.inl ⟨h4,rfl⟩)];exact⟨by decide,.inr rfl⟩
  |cons y l=>
   rw[Zh (by simp[h4])];have hb:=Pr (fq s) (y::l) 0;rw[Zy]at hb⊢;by_cases ha:jH Zi (fq s) 0 (y::l)=Zi
   .rw[Zm ha];refine⟨?_,.inr rfl⟩;rw[show decide ((4:Zc)=0)=O from by decide];by_cases hy:iY y=118
    .have hn:¬∀b∈l.map iY,b=118:=λe=>by
      have:=hb.2 (ZB.2 ⟨hy,e⟩);rw[ha]at this;cases this
     rw[hy];have:(Lib.trimB (l.map iY) 118).isEmpty=O:=by
      rw[ZE];intro e;exact hn ((Va _).1 e)
     simp[Zn,Zp,this]
    .have:Zn (iY y::l.map iY) [118]=O:=by
      unfold Zn;rw[ZE];intro e;have:=ZC.1 e;rw[Za.cons_prefix_cons]at this;exact hy this.1.symm
     show(Zn (iY y::l.map iY) [118]&&_)=O;rw[this,ZG]
   .rw[Zh ha];refine⟨?_,.inl rfl⟩;have cG:=hb.1 (by simpa using ha);rw[ZB]at cG;rw[cG.1,show decide ((0:Zc)=0)=Zi from by decide];have:=(Va (l.map iY)).2 cG.2;simp[Zn,Zp,this]
theorem acJ(h:Ee s=Zd)(l:Za Nd):gB s l=3:=by
 have:fq s=⟨#[]⟩:=by
  unfold fq;cases hq:CO.find? (λx=>decide (s=x.1))with
  |none=>rfl
  |some y=>
   exfalso
   obtain⟨x,hx,e⟩:=ajk y (ZQ hq);have h2:=ZK hq;simp at h2;have h3:=Za.find?_eq_none.1 h x hx;simp at h3;exact h3 (e.trans h2.symm)
 rw[gB,this,Zm (by decide)]
end Go.Proofs.YtdlgkgfeoiohiaaGreatDoor
