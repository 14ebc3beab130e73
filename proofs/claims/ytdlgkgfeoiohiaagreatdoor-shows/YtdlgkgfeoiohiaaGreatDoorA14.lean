/- Part 14. -/
import Derived.Test.YtdlgkgfeoiohiaaGreatDoorA11
import Derived.Test.YtdlgkgfeoiohiaaGreatDoorA12
import Derived.Test.YtdlgkgfeoiohiaaGreatDoorA13
open Bool renaming true -> Zf,false -> Zk,false_eq_true -> Zn
open ByteArray renaming mk -> Zo,size_extract -> ZE
open Go renaming Calls -> Zr
open Go.ByteArray renaming toList_eq -> Zw
open Go.Lib renaming hasPrefix -> ZA,trimPrefix -> ZB
open Go.RowKit renaming Below -> Zl
open List renaming length_append -> Zm,length -> Zx,mem_append -> Zy,append_eq_nil_iff -> ZG,cons_append -> ZH,drop_take -> ZI,mem_append_left -> ZJ,mem_append_right -> ZK,mem_cons -> ZL,nil_append -> ZM
open Option renaming some -> Ze,none -> Zi
open Prod.mk renaming injEq -> Zt
open _root_ renaming Int -> O,Nat -> Za,if_pos -> Zb,if_neg -> Zc,List -> Zd,ByteArray -> Zg,Bool -> Zh,UInt8 -> Zj,if_false -> Zp,if_true -> Zq,Except -> Zu,absurd -> Zv,congrArg -> Zz,decide_eq_false -> ZC,decide_eq_true -> ZD
namespace Go.Proofs.YtdlgkgfeoiohiaaGreatDoor
set_option linter.unusedVariables false
set_option maxHeartbeats 16000000
set_option maxRecDepth 100000
open Go.RowKit J Tryz
variable {s:Zg}{k b k' a k1 k2:Za}{J:Addr}{wh l fr:Zd Zj}{bad c:O}{dot lg:Zh}{X:Option O}
theorem ef.append{a b:Zd Zj}(h:ef a)(k:ef b):ef (a++b):=λc hc=>by
 rcases Zy.1 hc with hc|hc
 .exact h c hc
 .exact k c hc
theorem KG(h:ef l){x:Zj}(hx:x.toNat<48\/57<x.toNat):∀c∈l,c≠x:=λc hc e=>by
 have:=h c hc;rw[e]at this;omega
theorem MO(h1:ef wh)(h2:ef fr):∀c∈nG wh fr dot,([101,69]:Zd Zj).contains c=Zk/\c.toNat<128:=by
 have hd:∀c:Zj,(48<=c.toNat/\c.toNat<=57)\/c=46->([101,69]:Zd Zj).contains c=Zk/\c.toNat<128:=by
  intro c h;rcases h with h|rfl
  .have e1:c≠101:=λe=>by rw[e]at h;exact Zv h (by decide)
   have e2:c≠69:=λe=>by rw[e]at h;exact Zv h (by decide)
   exact⟨by simp[e1,e2],by omega⟩
  .decide
 intro c hc;unfold nG at hc;split at hc
 .rw[Zy,ZL]at hc;rcases hc with hc|hc|hc
  .exact hd c (.inl (h1 c hc))
  .exact hd c (.inr hc)
  .exact hd c (.inl (h2 c hc))
 .exact hd c (.inl (h1 c hc))
theorem agh(h1:ef wh)(hf:dot=Zk->fr=[]):(Lib.cut (nG wh fr dot) [46]).1=wh/\(Lib.cut (nG wh fr dot) [46]).2.1=fr:=by
 unfold nG;cases dot
 .rw[Zc (by simp),P7 (KG h1 (by decide)),hf rfl];exact⟨rfl,rfl⟩
 .rw[Zb rfl,P6 (KG h1 (by decide))];exact⟨rfl,rfl⟩
def GZ(neg:Zh):Option O->Value
 |some n=>.tuple #[.int .i64 (if neg then -n else n),.bool Zf]
 |none=>.tuple #[.int .i64 0,.bool Zk]
theorem ahE(sg:Za)(el:Zd Zj):bs (rS sg++el)=qQ sg (bs el):=by
 unfold rS qQ;rw[nn];split
 .rfl
 .split <;> rfl
theorem abL(h:ef l):kZ (bs l):=λi hi=>by
 have hm:(bs l)[i]∈(bs l).data.toList:=by rw[Zd.mem_iff_getElem];exact⟨i,by simpa using hi,rfl⟩
 rw[nn]at hm;exact h _ hm
def Fw(neg:Zh)(wh fr:Zd Zj)(dot ex:Zh)(ec:Zj)(sg:Za)(el:Zd Zj):Zd Zj:=
 (if neg then[45]else[])++(nG wh fr dot++(if ex then ec::(rS sg++el)else[]))
theorem agF{neg:Zh}{U:Zd Zj}(h1:ef wh)(bj:wh≠[])(t:Zd Zj)(hU:U=wh++t):ZB ((if neg then[45]else[])++U) [45]=U/\ZA ((if neg then[45]else[])++U) [45]=neg:=by
 cases neg
 .simp only[Zn,Zp,ZM];apply IOz
  intro x hx;rw[hU]at hx;cases wh with
  |nil=>exact Zv rfl bj
  |cons a a2=>
   simp only[ZH,Zd.head?_cons,Option.some.injEq]at hx;rw[<-hx];exact KG h1 (by decide) a (by simp)
 .simp only[Zq,ZH,ZM];exact No 45 U
theorem Nh(neg:Zh)(wh fr:Zd Zj)(dot ex:Zh)(ec:Zj)(sg:Za)(el:Zd Zj)(w:World)(hE:dS w)(h1:ef wh)(h2:ef fr)(h3:ef el)(bj:wh≠[])(hf:dot=Zk->fr=[])(hx:ex=Zk->sg=0/\el=[])(EO:ec=101\/ec=69)
 (hl:wh.length+fr.length+el.length<=1000):
 Zr prog 70 #[.string (bs (Fw neg wh fr dot ex ec sg el))] w λe w'=>e=.returned (GZ neg (jV (wh++fr) fr.length (if sg=1 then-jO el 0 else jO el 0)))/\Zl w.heap.size w w':=by
 obtain⟨U,hU⟩:∃U,U=nG wh fr dot++(if ex then ec::(rS sg++el)else[]):=⟨_,rfl⟩
 obtain⟨T,hT⟩:∃T,T=Fw neg wh fr dot ex ec sg el:=⟨_,rfl⟩
 have hcut:ZB T [45]=U/\ZA T [45]=neg:=by
  rw[hT,Fw,<-hU];refine agF h1 bj ((if dot then 46::fr else[])++(if ex then ec::(rS sg++el)else[])) ?_;rw[hU,nG];cases dot <;> simp
 have vJ:(nG wh fr dot).length<=wh.length+fr.length+1:=by
  unfold nG;split
  .simp;omega
  .omega
 have hUl:U.length<=1010:=by
  rw[hU,Zm];have:(rS sg).length<=1:=by
   unfold rS;split
   .simp
   .split <;> simp
  cases ex <;> simp <;> omega
 have Ra:∀c∈U,c.toNat<128:=by
  intro c hc;rw[hU,Zy]at hc;rcases hc with hc|hc
  .exact(MO h1 h2 c hc).2
  .split at hc
   .rw[ZL,Zy]at hc;rcases hc with rfl|hc|hc
    .rcases EO with rfl|rfl <;> decide
    .unfold rS at hc;repeat' split at hc
     all_goals (simp at hc;try (rw[hc];decide))
    .have:=h3 c hc;omega
   .simp at hc
 have RR:Lib.indexAny U [101,69]=if ex then((nG wh fr dot).length:O)else -1:=by
  rw[hU];cases ex
  .simp only[Zn,Zp,Zd.append_nil];exact S4 (λc hc=>(MO h1 h2 c hc).1)
  .simp only[Zq];exact S3 (λc hc=>(MO h1 h2 c hc).1) (by rcases EO with rfl|rfl <;> decide)
 have oQ:XX (ZB T [45]=U/\ZA T [45]=neg):=hcut;have O7:XX (∀c∈U,c.toNat<128):=Ra;have OH:XX (Lib.indexAny U [101,69]=if ex then((nG wh fr dot).length:O)else -1):=RR;have Gh:XX ((Lib.cut (nG wh fr dot) [46]).1=wh/\(Lib.cut (nG wh fr dot) [46]).2.1=fr):=agh h1 hf;have Oz:XX (dS w):=hE;have HU:XX (U=nG wh fr dot++(if ex then ec::(rS sg++el)else[])):=hU;have H3:XX (ef el):=h3;have Pc:XX (ef (wh++fr)):=h1.append h2;obtain⟨M,hM⟩:∃M,M=nG wh fr dot:=⟨_,rfl⟩
 have HM:XX (nG wh fr dot=M):=hM.symm;have OQ:XX (M.length<=1001):=by show _<=_;rw[hM];omega
 have sz1:(bs wh).size<=1000:=by rw[eO];omega
 have sz2:(bs fr).size<=1000:=by rw[eO];omega
 obtain⟨p,hp⟩:∃p:O,p=if sg=1 then-jO el 0 else jO el 0:=⟨_,rfl⟩
 have sA:XX ((if sg=1 then-jO el 0 else jO el 0)=p):=hp.symm;have E6:-1099511627776<=p/\p<=1099511627776:=by
  have:=Nm el 0 (by omega) (by omega) h3;rw[hp];split <;> omega
 obtain⟨aC,bb⟩:=E6;rw[<-hT,<-hp];clear hp hcut Ra RR hE hT h1 h2 h3 bj EO hf hM hU vJ;cases ex
 .obtain⟨rfl,rfl⟩:=hx rfl;have HUM:XX (U=M):=by show _=_;rw[HU.o,HM.o];simp
  go_enter func70,ntmps70;go_wp2_with fail;refine(VH T _).mono ?_;rintro e w1 ⟨rfl,rfl⟩;rw[oQ.o.1,oQ.o.2];go_wp2_with fail;refine(VG U (-1) _ (by omega) O7.o OH.o).mono ?_;rintro e w1 ⟨rfl,ae⟩;have Di:XX (dS w1):=Oz.o.below ae;rw[HUM.o];go_wp2_with fail;refine(VM M _ Di.o (by have:=OQ.o;omega)).mono ?_;rintro e w2 ⟨rfl,n2,rfl⟩;rw[show(Lib.cut M [46]).1=wh by rw[<-HM.o];exact Gh.o.1,show(Lib.cut M [46]).2.1=fr by rw[<-HM.o];exact Gh.o.2];go_wp2_with fail;rw[ei];refine(VJ (wh++fr) _).mono ?_;rintro e w3 ⟨rfl,rfl⟩;obtain⟨D,hD⟩:∃D,D=Lib.trimLeftB (wh++fr) 48:=⟨_,rfl⟩
  have yi:XX (Lib.trimLeftB (wh++fr) 48=D):=hD.symm;rw[<-hD];clear hD;have Df:XX (D.length<=1000):=by
   show _<=_;obtain⟨z,e,_,_⟩:=vZ (wh++fr);have:=Zz Zx e;rw[yi.o,Zm,Zm]at this;omega
  go_wp2_with fail;refine(VO D _ (by have:=Df.o;omega)).mono ?_;rintro e w3 ⟨rfl,rfl⟩;obtain⟨C,hC⟩:∃C,C=Lib.trimRightB D 48:=⟨_,rfl⟩
  have lV:XX (Lib.trimRightB D 48=C):=hC.symm;rw[<-hC];clear hC;have hCl:C.length<=D.length:=by
   obtain⟨z,e,_,_⟩:=Af D;have:=Zz Zx e;rw[lV.o,Zm]at this;omega
  have adh:D.length<=1000:=Df.o;have szD:(bs D).size=D.length:=eO D;have szC:(bs C).size=C.length:=eO C;have szF:(bs fr).size=fr.length:=eO fr;have Db:XX (ef C):=by
   show ef C;obtain⟨z1,e1,_,_⟩:=vZ (wh++fr);obtain⟨z2,e2,_,_⟩:=Af D;rw[yi.o]at e1;rw[lV.o]at e2;exact λc hc=>Pc.o c (by rw[e1];exact ZK _ (by rw[e2];exact ZJ _ hc))
  have bZ:Zl w.heap.size w (w1.drewN n2):=⟨ae.os,ae.tape,ae.output,ae.size,ae.block⟩
  have JI:XX (dS (w1.drewN n2)):=Di.o;clear ae;have tL:XX (jV (wh++fr) fr.length p=if C=[]then Ze 0 else if p+((D.length:O)-(C.length:O)-(fr.length:O)+6)<0\/15<p+((D.length:O)-(C.length:O)-(fr.length:O)+6)then Zi else if 1000000000000000<cg C*10^(p+((D.length:O)-(C.length:O)-(fr.length:O)+6)).toNat then Zi else Ze (cg C*10^(p+((D.length:O)-(C.length:O)-(fr.length:O)+6)).toNat)):=by
   show _=_;rw[jV,yi.o,lV.o]
  by_cases hCe:C=[]
  .have EQ:(bs C).toList.isEmpty=Zf:=by rw[Zw,nn,hCe];rfl
   have HQ:XX (jV (wh++fr) fr.length p=Ze 0):=by show _=_;rw[tL.o,Zb hCe]
   clear hCe;go_wp2_with fail;go_ret2;exact⟨by rw[HQ.o];cases neg <;> rfl,bZ⟩
  .have EQ:(bs C).toList.isEmpty=Zk:=by
    rw[Zw,nn];cases C with
    |nil=>exact Zv rfl hCe
    |cons _ _=>rfl
   obtain⟨E,Ej⟩:∃E:O,E=p+((D.length:O)-(C.length:O)-(fr.length:O)+6):=⟨_,rfl⟩
   have nc:XX (p+((D.length:O)-(C.length:O)-(fr.length:O)+6)=E):=Ej.symm;have HQ:XX (jV (wh++fr) fr.length p=if E<0\/15<E then Zi else if 1000000000000000<cg C*10^E.toNat then Zi else Ze (cg C*10^E.toNat)):=by show _=_;rw[tL.o,Zc hCe,nc.o]
   have Az:XX (C≠[]):=hCe;have HVP:XX (0<=cg C):=xX Db.o;clear hCe Ej;go_wp2_with fail;refine(Ua 0 ⟨#[]⟩ _ KH (by decide)).mono ?_;rintro e w4 ⟨rfl,rfl⟩;rw[sA.o];by_cases bU:p+((D.length:O)-(C.length:O)-(fr.length:O)+6)<0\/15<p+((D.length:O)-(C.length:O)-(fr.length:O)+6)
   .have dV:XX (jV (wh++fr) fr.length p=Zi):=by show _=_;rw[HQ.o,<-nc.o,Zb bU]
    rcases(show p+((D.length:O)-(C.length:O)-(fr.length:O)+6)<0\/(0<=p+((D.length:O)-(C.length:O)-(fr.length:O)+6)/\15<p+((D.length:O)-(C.length:O)-(fr.length:O)+6))from by omega)with hq|⟨hq,rN⟩
    all_goals
     go_wp2_with fail;go_ret2;exact⟨by rw[dV.o];rfl,bZ⟩
   .obtain⟨q1,q2⟩:0<=p+((D.length:O)-(C.length:O)-(fr.length:O)+6)/\p+((D.length:O)-(C.length:O)-(fr.length:O)+6)<=15:=by omega
    clear bU;go_wp2_with fail;refine(VN _ _ q1 q2).mono ?_;rintro e w5 ⟨rfl,bP⟩;rw[nc.o];rw[nc.o]at q1 q2;obtain⟨Z,hZ⟩:∃Z,Z=Lib.repeatL [48] E.toNat:=⟨_,rfl⟩
    have hZl:Z.length<=15:=by rw[hZ,(Ae _).2];omega
    have szZ:(bs Z).size=Z.length:=eO Z;have Kg:XX (cg (C++Z)=cg C*10^E.toNat):=by show _=_;rw[hZ];exact Vk C _
    have yJ:XX (ef (C++Z)):=Db.o.append (λc hc=>by rw[hZ]at hc;rw[(Ae _).1 c hc];decide);have DL:XX (C++Z≠[]):=λh=>Az.o (ZG.1 h).1
    have dV:XX (jV (wh++fr) fr.length p=if 1000000000000000<cg (C++Z)then Zi else Ze (cg (C++Z))):=by show _=_;rw[HQ.o,Zc (by omega),Kg.o]
    have J8:XX (0<=cg (C++Z)):=xX yJ.o;rw[<-hZ];have jm:Zl w.heap.size w w5:=bZ.trans (bP.mono bZ.size);have JJ:XX (dS w5):=JI.o.below bP;clear hZ bP;go_wp2_with fail;rw[ei];obtain⟨V,hV⟩:∃V:O,V=cg (C++Z):=⟨_,rfl⟩
    by_cases h63:cg (C++Z)<9223372036854775808
    .refine(VL (C++Z) _ yJ.o DL.o (by rw[Zm];omega) h63).mono ?_;rintro e w6 ⟨rfl,jB⟩;have lq:Zl w.heap.size w w6:=jm.trans (jB.mono jm.size);have hV0:0<=V:=by rw[hV];exact J8.o
     have sB:XX (jV (wh++fr) fr.length p=if 1000000000000000<V then Zi else Ze V):=by show _=_;rw[hV];exact dV.o
     rw[<-hV]at h63⊢;clear hV jB;by_cases hlim:1000000000000000<V
     .have qp:XX (jV (wh++fr) fr.length p=Zi):=by show _=_;rw[sB.o,Zb hlim]
      go_wp2_with fail;go_ret2;exact⟨by rw[qp.o];rfl,lq⟩
     .have qp:XX (jV (wh++fr) fr.length p=Ze V):=by show _=_;rw[sB.o,Zc hlim]
      cases neg
      .go_wp2_with fail;go_ret2;exact⟨by rw[qp.o];rfl,lq⟩
      .go_wp2_with fail;go_ret2;exact⟨by rw[qp.o];rfl,lq⟩
    .have qp:XX (jV (wh++fr) fr.length p=Zi):=by show _=_;rw[dV.o,Zb (by omega)]
     refine(VK (C++Z) _ JJ.o yJ.o DL.o (by rw[Zm];omega) h63).mono ?_;rintro e w6 ⟨⟨v,N,rfl⟩,jB⟩;have lq:Zl w.heap.size w w6:=jm.trans (jB.mono jm.size);clear jB h63 hV;go_wp2_with fail;go_ret2;exact⟨by rw[qp.o];rfl,lq⟩
 .have J7:XX (U=M++ec::(rS sg++el)):=by show _=_;rw[HU.o,HM.o];rfl
  have mq:XX (Lib.indexAny U [101,69]=(M.length:O)):=by show _=_;rw[OH.o,HM.o];rfl
  have hMU:(M.length:O)+1<=((bs U).size:O):=by rw[eO,J7.o];simp;omega
  have szU:(bs U).size<=1010:=by rw[eO];exact hUl
  have yF:XX ((bs U).extract 0 M.length=bs M):=by show _=_;rw[yQ,J7.o];simp
  have Gr:XX ((bs U).extract (M.length+1) (bs U).size=qQ sg (bs el)):=by
   show _=_;rw[yQ,eO,Zd.take_length,J7.o,<-ahE];simp[Zd.drop_append,Zd.drop_eq_nil_of_le (show M.length<=M.length+1 by omega)]
  have alY:el.length<=1000:=by omega
  go_enter func70,ntmps70;go_wp2_with fail;refine(VH T _).mono ?_;rintro e w1 ⟨rfl,rfl⟩;rw[oQ.o.1,oQ.o.2];go_wp2_with fail;refine(VG U M.length _ (by omega) O7.o mq.o).mono ?_;rintro e w1 ⟨rfl,ae⟩;have Di:XX (dS w1):=Oz.o.below ae;go_wp2_with fail;go_quiet (fail);go_wp2_with fail;rw[yF.o,Gr.o];generalize gX:w1.drewN nq=x1
  have Bx:Zl w.heap.size w x1:=by rw[<-gX];exact⟨ae.os,ae.tape,ae.output,ae.size,ae.block⟩
  have OA:XX (dS x1):=by show dS x1;rw[<-gX];exact Di.o
  clear gX ae Di;refine(VM M _ OA.o (by have:=OQ.o;omega)).mono ?_;rintro e w2 ⟨rfl,n2,rfl⟩;rw[show(Lib.cut M [46]).1=wh by rw[<-HM.o];exact Gh.o.1,show(Lib.cut M [46]).2.1=fr by rw[<-HM.o];exact Gh.o.2];go_wp2_with fail;rw[ei];refine(VJ (wh++fr) _).mono ?_;rintro e w3 ⟨rfl,rfl⟩;obtain⟨D,hD⟩:∃D,D=Lib.trimLeftB (wh++fr) 48:=⟨_,rfl⟩
  have yi:XX (Lib.trimLeftB (wh++fr) 48=D):=hD.symm;rw[<-hD];clear hD;have Df:XX (D.length<=1000):=by
   show _<=_;obtain⟨z,e,_,_⟩:=vZ (wh++fr);have:=Zz Zx e;rw[yi.o,Zm,Zm]at this;omega
  go_wp2_with fail;refine(VO D _ (by have:=Df.o;omega)).mono ?_;rintro e w3 ⟨rfl,rfl⟩;obtain⟨C,hC⟩:∃C,C=Lib.trimRightB D 48:=⟨_,rfl⟩
  have lV:XX (Lib.trimRightB D 48=C):=hC.symm;rw[<-hC];clear hC;have hCl:C.length<=D.length:=by
   obtain⟨z,e,_,_⟩:=Af D;have:=Zz Zx e;rw[lV.o,Zm]at this;omega
  have adh:D.length<=1000:=Df.o;have szD:(bs D).size=D.length:=eO D;have szC:(bs C).size=C.length:=eO C;have szF:(bs fr).size=fr.length:=eO fr;have Db:XX (ef C):=by
   show ef C;obtain⟨z1,e1,_,_⟩:=vZ (wh++fr);obtain⟨z2,e2,_,_⟩:=Af D;rw[yi.o]at e1;rw[lV.o]at e2;exact λc hc=>Pc.o c (by rw[e1];exact ZK _ (by rw[e2];exact ZJ _ hc))
  have bZ:Zl w.heap.size w (x1.drewN n2):=⟨Bx.os,Bx.tape,Bx.output,Bx.size,Bx.block⟩
  have JI:XX (dS (x1.drewN n2)):=OA.o;clear Bx;have tL:XX (jV (wh++fr) fr.length p=if C=[]then Ze 0 else if p+((D.length:O)-(C.length:O)-(fr.length:O)+6)<0\/15<p+((D.length:O)-(C.length:O)-(fr.length:O)+6)then Zi else if 1000000000000000<cg C*10^(p+((D.length:O)-(C.length:O)-(fr.length:O)+6)).toNat then Zi else Ze (cg C*10^(p+((D.length:O)-(C.length:O)-(fr.length:O)+6)).toNat)):=by
   show _=_;rw[jV,yi.o,lV.o]
  by_cases hCe:C=[]
  .have EQ:(bs C).toList.isEmpty=Zf:=by rw[Zw,nn,hCe];rfl
   have HQ:XX (jV (wh++fr) fr.length p=Ze 0):=by show _=_;rw[tL.o,Zb hCe]
   clear hCe;go_wp2_with fail;go_ret2;exact⟨by rw[HQ.o];cases neg <;> rfl,bZ⟩
  .have EQ:(bs C).toList.isEmpty=Zk:=by
    rw[Zw,nn];cases C with
    |nil=>exact Zv rfl hCe
    |cons _ _=>rfl
   obtain⟨E,Ej⟩:∃E:O,E=p+((D.length:O)-(C.length:O)-(fr.length:O)+6):=⟨_,rfl⟩
   have nc:XX (p+((D.length:O)-(C.length:O)-(fr.length:O)+6)=E):=Ej.symm;have HQ:XX (jV (wh++fr) fr.length p=if E<0\/15<E then Zi else if 1000000000000000<cg C*10^E.toNat then Zi else Ze (cg C*10^E.toNat)):=by show _=_;rw[tL.o,Zc hCe,nc.o]
   have Az:XX (C≠[]):=hCe;have HVP:XX (0<=cg C):=xX Db.o;clear hCe Ej;go_wp2_with fail;refine(Ua sg (bs el) _ (abL H3.o) (by rw[eO];omega)).mono ?_;rintro e w4 ⟨rfl,rfl⟩;rw[nn,sA.o];by_cases bU:p+((D.length:O)-(C.length:O)-(fr.length:O)+6)<0\/15<p+((D.length:O)-(C.length:O)-(fr.length:O)+6)
   .have dV:XX (jV (wh++fr) fr.length p=Zi):=by show _=_;rw[HQ.o,<-nc.o,Zb bU]
    rcases(show p+((D.length:O)-(C.length:O)-(fr.length:O)+6)<0\/(0<=p+((D.length:O)-(C.length:O)-(fr.length:O)+6)/\15<p+((D.length:O)-(C.length:O)-(fr.length:O)+6))from by omega)with hq|⟨hq,rN⟩
    all_goals
     go_wp2_with fail;go_ret2;exact⟨by rw[dV.o];rfl,bZ⟩
   .obtain⟨q1,q2⟩:0<=p+((D.length:O)-(C.length:O)-(fr.length:O)+6)/\p+((D.length:O)-(C.length:O)-(fr.length:O)+6)<=15:=by omega
    clear bU;go_wp2_with fail;refine(VN _ _ q1 q2).mono ?_;rintro e w5 ⟨rfl,bP⟩;rw[nc.o];rw[nc.o]at q1 q2;obtain⟨Z,hZ⟩:∃Z,Z=Lib.repeatL [48] E.toNat:=⟨_,rfl⟩
    have hZl:Z.length<=15:=by rw[hZ,(Ae _).2];omega
    have szZ:(bs Z).size=Z.length:=eO Z;have Kg:XX (cg (C++Z)=cg C*10^E.toNat):=by show _=_;rw[hZ];exact Vk C _
    have yJ:XX (ef (C++Z)):=Db.o.append (λc hc=>by rw[hZ]at hc;rw[(Ae _).1 c hc];decide);have DL:XX (C++Z≠[]):=λh=>Az.o (ZG.1 h).1
    have dV:XX (jV (wh++fr) fr.length p=if 1000000000000000<cg (C++Z)then Zi else Ze (cg (C++Z))):=by show _=_;rw[HQ.o,Zc (by omega),Kg.o]
    have J8:XX (0<=cg (C++Z)):=xX yJ.o;rw[<-hZ];have jm:Zl w.heap.size w w5:=bZ.trans (bP.mono bZ.size);have JJ:XX (dS w5):=JI.o.below bP;clear hZ bP;go_wp2_with fail;rw[ei];obtain⟨V,hV⟩:∃V:O,V=cg (C++Z):=⟨_,rfl⟩
    by_cases h63:cg (C++Z)<9223372036854775808
    .refine(VL (C++Z) _ yJ.o DL.o (by rw[Zm];omega) h63).mono ?_;rintro e w6 ⟨rfl,jB⟩;have lq:Zl w.heap.size w w6:=jm.trans (jB.mono jm.size);have hV0:0<=V:=by rw[hV];exact J8.o
     have sB:XX (jV (wh++fr) fr.length p=if 1000000000000000<V then Zi else Ze V):=by show _=_;rw[hV];exact dV.o
     rw[<-hV]at h63⊢;clear hV jB;by_cases hlim:1000000000000000<V
     .have qp:XX (jV (wh++fr) fr.length p=Zi):=by show _=_;rw[sB.o,Zb hlim]
      go_wp2_with fail;go_ret2;exact⟨by rw[qp.o];rfl,lq⟩
     .have qp:XX (jV (wh++fr) fr.length p=Ze V):=by show _=_;rw[sB.o,Zc hlim]
      cases neg
      .go_wp2_with fail;go_ret2;exact⟨by rw[qp.o];rfl,lq⟩
      .go_wp2_with fail;go_ret2;exact⟨by rw[qp.o];rfl,lq⟩
    .have qp:XX (jV (wh++fr) fr.length p=Zi):=by show _=_;rw[dV.o,Zb (by omega)]
     refine(VK (C++Z) _ JJ.o yJ.o DL.o (by rw[Zm];omega) h63).mono ?_;rintro e w6 ⟨⟨v,N,rfl⟩,jB⟩;have lq:Zl w.heap.size w w6:=jm.trans (jB.mono jm.size);clear jB h63 hV;go_wp2_with fail;go_ret2;exact⟨by rw[qp.o];rfl,lq⟩
def jU(s:Zg)(a b:Za):Zd Zj:=(s.extract a b).data.toList
theorem Bp{c:Za}(h1:a<=b)(h2:b<=c):jU s a c=jU s a b++jU s b c:=by
 have e:∀x y,jU s x y=(s.data.toList.take y).drop x:=λx y=>by
  unfold jU;rw[Zg.data_extract];simp[ZI]
 rw[e,e,e];obtain⟨m,rfl⟩:∃m,b=a+m:=⟨b-a,by omega⟩
 obtain⟨n,rfl⟩:∃n,c=a+m+n:=⟨c-(a+m),by omega⟩
 simp only[ZI];rw[show a+m+n-a=m+n by omega,show a+m-a=m by omega,show a+m+n-(a+m)=n by omega,<-Zd.drop_drop,Zd.take_add]
theorem GV(s:Zg)(a:Za):jU s a a=[]:=by
 have:(s.extract a a).size=0:=by rw[ZE];omega
 unfold jU;exact Zd.eq_nil_of_length_eq_zero this
theorem Bo{c:Zj}(h:gb s k=(c.toNat:O)):jU s k (k+1)=[c]:=by
 rw[jU,Qy (cC (by omega)),h];simp
theorem Ec(hb:b<=s.size):(jU s a b).length=b-a:=by
 have:(s.extract a b).size=b-a:=by rw[ZE];omega
 exact this
theorem Qv(hk:k<=s.size):ef (jU s k (aA s k)):=kZ.mem (G0 hk)
theorem aj7(h:kz s k1=Ze k2):k1<k2/\k2<=s.size/\ef (jU s k1 k2):=by
 unfold kz at h;split at h
 .rename_i dA
  injection h with h;subst h;have:=cC (s:=s) (k:=k1) (by omega);refine⟨by omega,by omega,?_⟩;rw[Bo (c:=48) dA];intro c hc;simp at hc;rw[hc];decide
 .split at h
  .rename_i hd
   injection h with h;subst h;have h1:=zT hd;have h2:=uG hd;have h3:=qh s (k1+1);exact⟨by omega,nK s k1 (by omega),Qv (by omega)⟩
  .cases h
theorem UC{l:Zg}(h:fI s k=(l,k',-1)):l.data.toList=jU s k k'/\k<k'/\k'<=s.size/\ef (jU s k k'):=by
 unfold fI at h;split at h
 .rename_i hd
  simp only[Zt]at h;obtain⟨rfl,rfl,_⟩:=h;have h1:=zT hd;have h2:=uG hd;have h3:=qh s (k+1);exact⟨rfl,by omega,nK s k (by omega),Qv (by omega)⟩
 .simp only[Zt]at h;omega
theorem MY{k3 k4:Za}{pt:Zg}{p:O}(hs:s.size<=1000)(dh:k1=if gb s k=45 then k+1 else k)(hw:kz s k1=Ze k2)(hp:eZ s k2=(pt,k3,-1))(hx:d9 s k3 (-1)=(p,k4,-1)):
 ∃wh fr dot ex ec sg el,s.extract k k4=bs (Fw (decide (gb s k=45)) wh fr dot ex ec sg el)/\ef wh/\ef fr/\ef el/\wh≠[]/\(dot=Zk->fr=[])/\(ex=Zk->sg=0/\el=[])/\(ec=101\/ec=69)/\wh.length+fr.length+el.length<=1000/\k<=k4/\k4<=s.size /\
  jV (wh++fr) fr.length (if sg=1 then-jO el 0 else jO el 0)=kI ((s.extract k1 k2).data.toList++pt.data.toList) (((k2-k1:Za):O)+p):=by
 obtain⟨w1,w2,w3⟩:=aj7 hw;have kN:k<=k1:=by rw[dh];split <;> omega
 have jD:jU s k k1=if decide (gb s k=45)then[45]else[]:=by
  by_cases h:gb s k=45
  .rw[dh,Zb h,ZD h,Zb rfl];exact Bo (c:=45) h
  .rw[dh,Zc h,ZC h,Zc (by simp)];exact GV s k
 obtain⟨dot,fr,p1,p2,p3,p4,p5,p6⟩:∃(dot:Zh) (fr:Zd Zj),jU s k2 k3=(if dot then 46::fr else[])/\fr=pt.data.toList/\ef fr/\(dot=Zk->fr=[])/\k2<=k3/\k3<=s.size:=by
  unfold eZ at hp;split at hp
  .rename_i mD
   obtain⟨r1,r2,r3,r4⟩:=UC hp;refine⟨Zf,jU s (k2+1) k3,?_,r1.symm,r4,by simp,by omega,r3⟩;rw[Zb rfl,Bp (show k2<=k2+1 by omega) (by omega),Bo (c:=46) mD];rfl
  .simp only[Zt]at hp;obtain⟨rfl,rfl,_⟩:=hp;exact⟨Zk,[],by rw[GV];rfl,rfl,λc hc=>by simp at hc,λ_=>rfl,by omega,w2⟩
 obtain⟨ex,ec,sg,el,q1,q2,q3,q4,q5,q6,q7⟩:∃(ex:Zh) (ec:Zj) (sg:Za) (el:Zd Zj),jU s k3 k4=(if ex then ec::(rS sg++el)else[])/\ef el/\(ex=Zk->sg=0/\el=[])/\(ec=101\/ec=69)/\k3<=k4/\k4<=s.size/\p=(if decide (sg=1)then-iG el 0 else iG el 0):=by
  unfold d9 at hx;rw[ct]at hx;split at hx
  .rename_i he
   obtain⟨ec,EO,adZ⟩:∃ec:Zj,gb s k3=(ec.toNat:O)/\(ec=101\/ec=69):=by
    rcases he with he|he
    .exact⟨101,he,.inl rfl⟩
    .exact⟨69,he,.inr rfl⟩
   simp only[Zt]at hx;obtain⟨x1,x2,x3⟩:=hx;obtain⟨sg,ks,s1,s2,s3,s4⟩:∃(sg ks:Za),ks=(if gb s (k3+1)=45\/gb s (k3+1)=43 then k3+2 else k3+1)/\jU s (k3+1) ks=rS sg/\(sg=1↔gb s (k3+1)=45)/\k3+1<=ks:=by
    by_cases ey:gb s (k3+1)=45
    .exact⟨1,k3+2,by rw[Zb (.inl ey)],Bo (c:=45) ey,by simp[ey],by omega⟩
    .by_cases mC:gb s (k3+1)=43
     .exact⟨2,k3+2,by rw[Zb (.inr mC)],Bo (c:=43) mC,by simp[ey],by omega⟩
     .exact⟨0,k3+1,by rw[Zc (by omega)],GV s _,by simp[ey],by omega⟩
   rw[<-s1]at x1 x2 x3;have hr:fI s ks=((fI s ks).1,k4,-1):=by rw[<-x2,<-x3]
   obtain⟨r1,r2,r3,r4⟩:=UC hr;refine⟨Zf,ec,sg,jU s ks k4,?_,r4,by simp,adZ,by omega,r3,?_⟩
   .rw[Zb rfl,Bp (show k3<=k3+1 by omega) (by omega),Bo EO,Bp s4 (by omega),s2];rfl
   .rw[<-x1,r1];by_cases ey:gb s (k3+1)=45
    .rw[Zb ey,ZD (s3.2 ey)];rfl
    .rw[Zc ey,ZC (λh=>ey (s3.1 h))];rfl
  .simp only[Zt]at hx;obtain⟨rfl,rfl,_⟩:=hx;exact⟨Zk,101,0,[],by rw[GV];rfl,λc hc=>by simp at hc,λ_=>⟨rfl,rfl⟩,.inl rfl,by omega,p6,rfl⟩
 have az:(jU s k1 k2).length+fr.length+el.length<=1000:=by
  have l1:=Ec (s:=s) (a:=k1) w2;have l2:=Ec (s:=s) (a:=k2) p6;have l3:=Ec (s:=s) (a:=k3) q6;rw[p1]at l2;rw[q1]at l3;have m2:fr.length<=k3-k2:=by
   cases dot
   .rw[p4 rfl];simp
   .simp at l2;omega
  have m3:el.length<=k4-k3:=by
   cases ex
   .rw[(q3 rfl).2];simp
   .simp at l3;omega
  omega
 refine⟨jU s k1 k2,fr,dot,ex,ec,sg,el,?_,w3,p3,q2,?_,p4,q3,q4,az,by omega,q6,?_⟩
 .rw[<-Bh (s.extract k k4)]
  congr 1
  show jU s k k4=_;rw[Fw,Bp (show k<=k1 by omega) (show k1<=k4 by omega),Bp (show k1<=k3 by omega) (show k3<=k4 by omega),Bp (show k1<=k2 by omega) p5,jD,p1,q1,nG];cases dot <;> simp
 .intro h;have:=Ec (s:=s) (a:=k1) w2;rw[h]at this;simp at this;omega
 .have hb:=acF (jU s k1 k2) fr el (decide (sg=1)) (w3.append p3) q2 (by rw[Zm];omega);rw[Ec w2,<-q7]at hb;rw[show((s.extract k1 k2).data.toList)=jU s k1 k2 from rfl,<-p2,<-hb];by_cases h1:sg=1
  .rw[Zb h1,ZD h1];rfl
  .rw[Zc h1,ZC h1];rfl
def Kj(J:Addr)(R:Option (Option O)×Za×O)(neg lg:Zh)(e:Ending)(lg':Zh):Prop:=
 (0<=R.2.2/\lg'=lg/\e=.returned (.tuple #[.nilIface,aG J R.2.1])) \/
 (R.2.2<0/\lg'=uB lg R.1/\∃x,R.1=Ze x/\e=.returned (.tuple #[.iface 97 (.int .i64 (if neg then -(x.getD 0)else x.getD 0)),.nilIface]))
theorem PS.below{w w':World}{op:O}(h:PS w b s k op lg J)(hb:Zl w.heap.size w w'):PS w' b s k op lg J:=
 ⟨(hb.block b (al h.1)).trans h.1,(hb.block _ (al h.2.1)).trans h.2.1,h.2.2⟩
theorem MU(h:Zk=X.isSome):X=Zi:=by
 cases X with
 |none=>rfl
 |some x=>simp at h
theorem MV(h:Zf=X.isSome):uB lg (Ze X)=lg:=by
 cases X with
 |none=>simp at h
 |some x=>rfl
theorem uD(h:Ab s k c=(Zf,k'))(hc:0<c):gb s k=c/\k'=k+1/\k<s.size:=by
 unfold Ab at h;split at h
 .rename_i g
  have hg:=(iT hc).1 g;simp only[Zt,true_and]at h;exact⟨hg,h.symm,cC (by omega)⟩
 .simp at h
theorem uC(h:Ab s k c=(Zk,k'))(hc:0<c):gb s k≠c/\k'=k:=by
 unfold Ab at h;split at h
 .simp at h
 .rename_i g
  simp only[Zt,true_and]at h;exact⟨λe=>g ((iT hc).2 e),h.symm⟩
theorem ahv(b:Za)(s:Zg)(k:Za)(op:O)(lg:Zh)(w:World)(hp:PS w b s k op lg J)(hE:dS w)(fD:15<=b)(hk:k<=s.size)(hs:s.size<=1000):
 Zr prog 37 #[.pointer (Ze ⟨b,0,Zi⟩)] w λe w'=>∃lg',XX (Kj J (dQ s k) (decide (gb s k=45)) lg e lg')/\ab b w w'/\PS w' b s (dQ s k).2.1 op lg' J:=by
 have HP:XX (PS w b s k op lg J):=hp;have HE:XX (dS w):=hE;obtain⟨R,hR⟩:∃R,R=dQ s k:=⟨_,rfl⟩
 have HR:XX (R=dQ s k):=hR;obtain⟨ng,zG⟩:∃ng,ng=decide (gb s k=45):=⟨_,rfl⟩
 have AK:XX (ng=decide (gb s k=45)):=zG;rw[<-hR,<-zG];obtain⟨g0,g1,g2,g3,hf⟩:=iq hp.1;clear hp hE hR zG g0 g2 g3 hf;go_enter func37,ntmps37;go_wp2_with fail;refine(Ac b s k op lg 45 _ HP.o hk hs).mono ?_;rintro e w1 ⟨t1,k1,rfl,ae,aC,gq⟩;have gu:XX (k1=if gb s k=45 then k+1 else k):=by
  show _=_;cases t1
  .obtain⟨h,h'⟩:=uC gq.o (by omega);rw[Zc h,h']
  .obtain⟨h,h',_⟩:=uD gq.o (by omega);rw[Zb h,h']
 have dh:k1<=s.size:=by
  cases t1
  .obtain⟨h,h'⟩:=uC gq.o (by omega);omega
  .obtain⟨h,h',_⟩:=uD gq.o (by omega);omega
 clear gq;go_wp2_with fail;refine(Ac b s k1 op lg 48 _ aC dh hs).mono ?_;rintro e w2 ⟨t2,k2,rfl,ah,bb,mg⟩;have rt:ab b w w2:=ae.trans ah;clear ae ah aC
 go_upto_if 18 with(fail)
 go_cut[] (λwx=>∃k3,ab b w wx/\PS wx b s k3 op lg J/\XX (kz s k1=Ze k3)/\k3<=s.size)
 case first=>
  have gd:XX (PS w2 b s k2 op lg J):=bb;clear bb;cases t2
  .obtain⟨dA,rfl⟩:=uC mg.o (by omega);have C0:XX (gb s k2≠48):=dA;clear dA mg;go_wp2_with fail;refine(Cx b s k2 op lg _ gd.o dh hs).mono ?_;rintro e w3 ⟨rfl,ap,bk⟩;cases hd:aK (gb s k2)
   .have HF:XX (R=(Zi,k2,(k2:O))):=by show _=_;rw[HR.o];exact Cu gu.o (by rw[kz,Zc C0.o,hd];rfl)
    rw[hd]at bk;simp only[Zn,Zp]at bk⊢;rw[aG];clear hd;go_wp2_with fail;go_ret2;exact⟨lg,.inl ⟨by rw[HF.o];simp only;omega,rfl,by rw[HF.o];rfl⟩,rt.trans ap,by rw[HF.o];exact bk⟩
   .have Ka:XX (kz s k2=Ze (aA s k2)):=by show _=_;rw[kz,Zc C0.o,hd];rfl
    rw[hd]at bk;simp only[Zq]at bk⊢;clear hd;go_wp2_with fail;go_meet
    case rel=>exact⟨aA s k2,rt.trans ap,bk,Ka,nK s k2 dh⟩
  .obtain⟨dA,rfl,ai⟩:=uD mg.o (by omega);have Ka:XX (kz s k1=Ze (k1+1)):=by show _=_;rw[kz,Zb dA]
   clear dA mg;go_wp2_with fail;go_meet
   case rel=>exact⟨k1+1,rt,gd.o,Ka,ai⟩
 case rest=>
  obtain⟨k3,ap,bk,od,rE⟩:=hcut;clear bb mg rt;go_wp2_with fail;refine(Ac b s k3 op lg 46 _ bk rE hs).mono ?_;rintro e w4 ⟨t4,k4,rfl,aB,bg,pl⟩;have Hq:ab b w w4:=ap.trans aB;clear ap aB bk
  go_upto_if 25 with(fail)
  go_cut[] (λwx=>∃k5,ab b w wx/\PS wx b s k5 op lg J/\XX (∃pt,eZ s k3=(pt,k5,-1))/\k5<=s.size)
  case first=>
   have AM:XX (PS w4 b s k4 op lg J):=bg;clear bg;cases t4
   .obtain⟨mD,rfl⟩:=uC pl.o (by omega);have q9:XX (∃pt,eZ s k4=(pt,k4,-1)):=⟨⟨#[]⟩,by rw[eZ,Zc mD]⟩
    clear mD pl;go_wp2_with fail;go_meet
    case rel=>exact⟨k4,Hq,AM.o,q9,rE⟩
   .obtain⟨mD,rfl,ai⟩:=uD pl.o (by omega);have Av:XX (gb s k3=46):=mD;clear mD pl;go_wp2_with fail;refine(Cx b s (k3+1) op lg _ AM.o ai hs).mono ?_;rintro e w5 ⟨rfl,bP,dB⟩;cases hd:aK (gb s (k3+1))
    .have HF:XX (∃x,R=(Ze x,k3+1,((k3+1:Za):O))):=by
      show ∃x,_;have ny:eZ s k3=(⟨#[48]⟩,k3+1,((k3+1:Za):O)):=by rw[eZ,Zb Av.o,fI,hd];rfl
      have nD:d9 s (k3+1) ((k3+1:Za):O)=(0,k3+1,((k3+1:Za):O)):=by rw[d9,ro s _ (by omega),Zc (by omega)]
      exact⟨_,by rw[HR.o];exact rQ gu.o od.o ny nD⟩
     rw[hd]at dB;simp only[Zn,Zp]at dB⊢;rw[aG];clear hd;go_wp2_with fail;go_ret2;obtain⟨x,hx⟩:=HF.o;exact⟨lg,.inl ⟨by rw[hx];simp only;omega,rfl,by rw[hx];rfl⟩,Hq.trans bP,by rw[hx];exact dB⟩
    .have q9:XX (∃pt,eZ s k3=(pt,aA s (k3+1),-1)):=⟨_,by rw[eZ,Zb Av.o,fI,hd];rfl⟩
     rw[hd]at dB;simp only[Zq]at dB⊢;clear hd;go_wp2_with fail;go_meet
     case rel=>exact⟨aA s (k3+1),Hq.trans bP,dB,q9,nK s _ ai⟩
  case rest=>
   obtain⟨k5,bP,dB,ny,vH⟩:=hcut;clear bg pl Hq;have qo:XX (PS wc b s k5 op lg J):=dB;clear dB;obtain⟨c,hc⟩:∃c,c=pk s k5:=⟨_,rfl⟩
   have HC:XX (pk s k5=c):=hc.symm;clear hc;rcases(show c=101\/c=69\/(c≠101/\c≠69)from by omega)with rfl|rfl|⟨Ib,rJ⟩
   .have mP:k5<s.size:=Nj (by rw[HC.o];omega);have uQ:XX (cv s k5 (-1)=101\/cv s k5 (-1)=69):=by show _\/_;rw[ct];exact .inl ((iT (by omega)).1 HC.o)
    go_wp2_with fail;refine(pu b s k5 op lg 101 _ qo.o vH hs HC.o).mono ?_;rintro e w6 ⟨rfl,xm,qM⟩;have jB:ab b w w6:=bP.trans xm;have Du:XX (PS w6 b s (k5+1) op lg J):=qM;clear qM xm bP qo
    go_upto_if 36 with(fail)
    go_cut[] (λwx=>∃k6,ab b w wx/\PS wx b s k6 op lg J/\XX (∃p,d9 s k5 (-1)=(p,k6,-1))/\k6<=s.size)
    case first=>
     go_wp2_with fail;refine(Ac b s (k5+1) op lg 43 _ Du.o mP hs).mono ?_;rintro e w7 ⟨t7,k7,rfl,iO,pb,qO⟩;have zl:ab b w w7:=jB.trans iO;have Dv:XX (PS w7 b s k7 op lg J):=pb;clear pb iO;cases t7
     .obtain⟨mC,rfl⟩:=uC qO.o (by omega);have Jw:XX (gb s (k5+1)≠43):=mC;clear mC qO;go_wp2_with fail;refine(Ac b s (k5+1) op lg 45 _ Dv.o mP hs).mono ?_;rintro e w8 ⟨t8,k8,rfl,bG,fP,tg⟩;have Ey:ab b w w8:=zl.trans bG;have JY:XX (PS w8 b s k8 op lg J):=fP;have qm:XX (k8=if gb s (k5+1)=45\/gb s (k5+1)=43 then k5+2 else k5+1):=by
       show _=_;cases t8
       .obtain⟨h,h'⟩:=uC tg.o (by omega);rw[Zc (λhh=>hh.elim h Jw.o),h']
       .obtain⟨h,h',_⟩:=uD tg.o (by omega);rw[Zb (.inl h),h']
      have lw:k8<=s.size:=by
       cases t8
       .obtain⟨h,h'⟩:=uC tg.o (by omega);omega
       .obtain⟨h,h',_⟩:=uD tg.o (by omega);omega
      clear fP bG tg;go_wp2_with fail;refine(Cx b s k8 op lg _ JY.o lw hs).mono ?_;rintro e w9 ⟨rfl,jd,iD⟩;cases hd:aK (gb s k8)
      .have HF:XX (∃x,R=(Ze x,k8,((k8:Za):O))):=by
        show ∃x,_;obtain⟨pt,fQ⟩:=ny.o;have pj:fI s k8=(⟨#[48]⟩,k8,((k8:Za):O)):=by rw[fI,hd];rfl
        have nD:d9 s k5 (-1)=((if gb s (k5+1)=45 then-iG (Zo #[48]).data.toList 0 else iG (Zo #[48]).data.toList 0),k8,((k8:Za):O)):=by
         rw[d9,Zb uQ.o,<-qm.o];simp only;rw[pj]
        exact⟨_,by rw[HR.o];exact rQ gu.o od.o fQ nD⟩
       rw[hd]at iD;simp only[Zn,Zp]at iD⊢;rw[aG];clear hd;go_wp2_with fail;go_ret2;obtain⟨x,hx⟩:=HF.o;exact⟨lg,.inl ⟨by rw[hx];simp only;omega,rfl,by rw[hx];rfl⟩,Ey.trans jd,by rw[hx];exact iD⟩
      .have yI:XX (∃p,d9 s k5 (-1)=(p,aA s k8,-1)):=by
        show ∃p,_;have pj:fI s k8=(s.extract k8 (aA s k8),aA s k8,-1):=by rw[fI,hd];rfl
        exact⟨_,by rw[d9,Zb uQ.o,<-qm.o];simp only;rw[pj]⟩
       rw[hd]at iD;simp only[Zq]at iD⊢;clear hd;go_wp2_with fail;go_meet
       case rel=>exact⟨aA s k8,Ey.trans jd,iD,yI,nK s _ lw⟩
     .obtain⟨mC,rfl,zA⟩:=uD qO.o (by omega);have qm:XX (k5+1+1=if gb s (k5+1)=45\/gb s (k5+1)=43 then k5+2 else k5+1):=by show _=_;rw[Zb (.inr mC)]
      clear mC qO;go_wp2_with fail;refine(Cx b s (k5+1+1) op lg _ Dv.o zA hs).mono ?_;rintro e w9 ⟨rfl,jd,iD⟩;cases hd:aK (gb s (k5+1+1))
      .have HF:XX (∃x,R=(Ze x,(k5+1+1),(((k5+1+1):Za):O))):=by
        show ∃x,_;obtain⟨pt,fQ⟩:=ny.o;have pj:fI s (k5+1+1)=(⟨#[48]⟩,(k5+1+1),(((k5+1+1):Za):O)):=by rw[fI,hd];rfl
        have nD:d9 s k5 (-1)=((if gb s (k5+1)=45 then-iG (Zo #[48]).data.toList 0 else iG (Zo #[48]).data.toList 0),(k5+1+1),(((k5+1+1):Za):O)):=by
         rw[d9,Zb uQ.o,<-qm.o];simp only;rw[pj]
        exact⟨_,by rw[HR.o];exact rQ gu.o od.o fQ nD⟩
       rw[hd]at iD;simp only[Zn,Zp]at iD⊢;rw[aG];clear hd;go_wp2_with fail;go_ret2;obtain⟨x,hx⟩:=HF.o;exact⟨lg,.inl ⟨by rw[hx];simp only;omega,rfl,by rw[hx];rfl⟩,zl.trans jd,by rw[hx];exact iD⟩
      .have yI:XX (∃p,d9 s k5 (-1)=(p,aA s (k5+1+1),-1)):=by
        show ∃p,_;have pj:fI s (k5+1+1)=(s.extract (k5+1+1) (aA s (k5+1+1)),aA s (k5+1+1),-1):=by rw[fI,hd];rfl
        exact⟨_,by rw[d9,Zb uQ.o,<-qm.o];simp only;rw[pj]⟩
       rw[hd]at iD;simp only[Zq]at iD⊢;clear hd;go_wp2_with fail;go_meet
       case rel=>exact⟨aA s (k5+1+1),zl.trans jd,iD,yI,nK s _ zA⟩
    case rest=>
     obtain⟨k6,ru,sW,nD,mO⟩:=hcut;clear jB Du;obtain⟨pt,fQ⟩:=ny.o;obtain⟨pw,sX⟩:=nD.o;obtain⟨wh,fr,dot,ex,ec,sg,el,n1,n2,n3,n4,n5,n6,n7,n8,n9,n10,n11,n12⟩:=MY hs gu.o od.o fQ sX;obtain⟨X,hX⟩:∃X,X=kI ((s.extract k1 k3).data.toList++pt.data.toList) (((k3-k1:Za):O)+pw):=⟨_,rfl⟩
     have HF:XX (R=(Ze X,k6,-1)):=by show _=_;rw[HR.o,hX];exact rQ gu.o od.o fQ sX
     obtain⟨nv,ok,xG,xF⟩:∃nv ok,GZ ng X=.tuple #[.int .i64 nv,.bool ok]/\ok=X.isSome/\nv=(if ng then -(X.getD 0)else X.getD 0):=by
      cases X
      .exact⟨0,Zk,rfl,rfl,by cases ng <;> rfl⟩
      .exact⟨_,Zf,rfl,rfl,rfl⟩
     have pN:XX (ok=X.isSome/\nv=(if ng then -(X.getD 0)else X.getD 0)):=xF;have DJ:XX (∀W,dS W->Zr prog 70 #[.string (s.extract k k6)] W λe w'=>e=.returned (.tuple #[.int .i64 nv,.bool ok])/\Zl W.heap.size W w'):=by
      intro W hW;rw[<-xG,n1,hX,<-n12,AK.o];exact Nh _ wh fr dot ex ec sg el W hW n2 n3 n4 n5 n6 n7 n8 n9
     have b1:(k:O)<=(k6:O):=by omega
     have b2:(k6:O)<=(s.size:O):=by omega
     obtain⟨y0,y1,y2,y3,yf⟩:=iq sW.1;have q8:XX (PS wc b s k6 op lg J):=sW;have nc:XX (dS wc):=HE.o.but ru fD;clear fQ sX n1 n2 n3 n4 n5 n6 n7 n8 n9 n12 hX xG xF sW y2 y3 ny nD od;go_wp2_with fail
     go_region_with (go_at_call 70;(refine(DJ.o wc.drew nc.o).mono ?_;rintro e wz ⟨rfl,oD⟩))
     all_goals
      have sJ:PS wz b s k6 op lg J:=PS.below (w:=wc.drew) q8.o oD;have xj:ab b w wz:=(ru.drew).of_below oD;have wP:XX (PS wz b s k6 op lg J):=sJ;obtain⟨z0,z1,z2,z3,zf⟩:=iq sJ.1;clear sJ oD z0 z1 z2;cases ok
      .go_wp2_with fail;go_ret2;have Ev:X=Zi:=MU pN.o.1;refine⟨Zf,.inr ⟨by rw[HF.o];simp only;omega,by rw[HF.o,Ev];rfl,X,by rw[HF.o],?_⟩,xj.setCell _ _,by rw[HF.o];exact wP.o.large Zf⟩;rw[<-pN.o.2];rfl
      .go_wp2_with fail;go_ret2;have zj:uB lg (Ze X)=lg:=MV pN.o.1;refine⟨lg,.inr ⟨by rw[HF.o];simp only;omega,by rw[HF.o];exact zj.symm,X,by rw[HF.o],?_⟩,xj,by rw[HF.o];exact wP.o⟩;rw[<-pN.o.2];rfl
   .have mP:k5<s.size:=Nj (by rw[HC.o];omega);have uQ:XX (cv s k5 (-1)=101\/cv s k5 (-1)=69):=by show _\/_;rw[ct];exact .inr ((iT (by omega)).1 HC.o)
    go_wp2_with fail;refine(iW b s k5 op lg 101 _ qo.o vH hs (by rw[HC.o];decide)).mono ?_;rintro e w60 ⟨rfl,Ez,E5⟩;go_wp2_with fail;refine(pu b s k5 op lg 69 _ E5 vH hs HC.o).mono ?_;rintro e w6 ⟨rfl,xm,qM⟩;have jB:ab b w w6:=(bP.trans Ez).trans xm;have Du:XX (PS w6 b s (k5+1) op lg J):=qM;clear qM xm bP qo E5 Ez
    go_upto_if 36 with(fail)
    go_cut[] (λwx=>∃k6,ab b w wx/\PS wx b s k6 op lg J/\XX (∃p,d9 s k5 (-1)=(p,k6,-1))/\k6<=s.size)
    case first=>
     go_wp2_with fail;refine(Ac b s (k5+1) op lg 43 _ Du.o mP hs).mono ?_;rintro e w7 ⟨t7,k7,rfl,iO,pb,qO⟩;have zl:ab b w w7:=jB.trans iO;have Dv:XX (PS w7 b s k7 op lg J):=pb;clear pb iO;cases t7
     .obtain⟨mC,rfl⟩:=uC qO.o (by omega);have Jw:XX (gb s (k5+1)≠43):=mC;clear mC qO;go_wp2_with fail;refine(Ac b s (k5+1) op lg 45 _ Dv.o mP hs).mono ?_;rintro e w8 ⟨t8,k8,rfl,bG,fP,tg⟩;have Ey:ab b w w8:=zl.trans bG;have JY:XX (PS w8 b s k8 op lg J):=fP;have qm:XX (k8=if gb s (k5+1)=45\/gb s (k5+1)=43 then k5+2 else k5+1):=by
       show _=_;cases t8
       .obtain⟨h,h'⟩:=uC tg.o (by omega);rw[Zc (λhh=>hh.elim h Jw.o),h']
       .obtain⟨h,h',_⟩:=uD tg.o (by omega);rw[Zb (.inl h),h']
      have lw:k8<=s.size:=by
       cases t8
       .obtain⟨h,h'⟩:=uC tg.o (by omega);omega
       .obtain⟨h,h',_⟩:=uD tg.o (by omega);omega
      clear fP bG tg;go_wp2_with fail;refine(Cx b s k8 op lg _ JY.o lw hs).mono ?_;rintro e w9 ⟨rfl,jd,iD⟩;cases hd:aK (gb s k8)
      .have HF:XX (∃x,R=(Ze x,k8,((k8:Za):O))):=by
        show ∃x,_;obtain⟨pt,fQ⟩:=ny.o;have pj:fI s k8=(⟨#[48]⟩,k8,((k8:Za):O)):=by rw[fI,hd];rfl
        have nD:d9 s k5 (-1)=((if gb s (k5+1)=45 then-iG (Zo #[48]).data.toList 0 else iG (Zo #[48]).data.toList 0),k8,((k8:Za):O)):=by
         rw[d9,Zb uQ.o,<-qm.o];simp only;rw[pj]
        exact⟨_,by rw[HR.o];exact rQ gu.o od.o fQ nD⟩
       rw[hd]at iD;simp only[Zn,Zp]at iD⊢;rw[aG];clear hd;go_wp2_with fail;go_ret2;obtain⟨x,hx⟩:=HF.o;exact⟨lg,.inl ⟨by rw[hx];simp only;omega,rfl,by rw[hx];rfl⟩,Ey.trans jd,by rw[hx];exact iD⟩
      .have yI:XX (∃p,d9 s k5 (-1)=(p,aA s k8,-1)):=by
        show ∃p,_;have pj:fI s k8=(s.extract k8 (aA s k8),aA s k8,-1):=by rw[fI,hd];rfl
        exact⟨_,by rw[d9,Zb uQ.o,<-qm.o];simp only;rw[pj]⟩
       rw[hd]at iD;simp only[Zq]at iD⊢;clear hd;go_wp2_with fail;go_meet
       case rel=>exact⟨aA s k8,Ey.trans jd,iD,yI,nK s _ lw⟩
     .obtain⟨mC,rfl,zA⟩:=uD qO.o (by omega);have qm:XX (k5+1+1=if gb s (k5+1)=45\/gb s (k5+1)=43 then k5+2 else k5+1):=by show _=_;rw[Zb (.inr mC)]
      clear mC qO;go_wp2_with fail;refine(Cx b s (k5+1+1) op lg _ Dv.o zA hs).mono ?_;rintro e w9 ⟨rfl,jd,iD⟩;cases hd:aK (gb s (k5+1+1))
      .have HF:XX (∃x,R=(Ze x,(k5+1+1),(((k5+1+1):Za):O))):=by
        show ∃x,_;obtain⟨pt,fQ⟩:=ny.o;have pj:fI s (k5+1+1)=(⟨#[48]⟩,(k5+1+1),(((k5+1+1):Za):O)):=by rw[fI,hd];rfl
        have nD:d9 s k5 (-1)=((if gb s (k5+1)=45 then-iG (Zo #[48]).data.toList 0 else iG (Zo #[48]).data.toList 0),(k5+1+1),(((k5+1+1):Za):O)):=by
         rw[d9,Zb uQ.o,<-qm.o];simp only;rw[pj]
        exact⟨_,by rw[HR.o];exact rQ gu.o od.o fQ nD⟩
       rw[hd]at iD;simp only[Zn,Zp]at iD⊢;rw[aG];clear hd;go_wp2_with fail;go_ret2;obtain⟨x,hx⟩:=HF.o;exact⟨lg,.inl ⟨by rw[hx];simp only;omega,rfl,by rw[hx];rfl⟩,zl.trans jd,by rw[hx];exact iD⟩
      .have yI:XX (∃p,d9 s k5 (-1)=(p,aA s (k5+1+1),-1)):=by
        show ∃p,_;have pj:fI s (k5+1+1)=(s.extract (k5+1+1) (aA s (k5+1+1)),aA s (k5+1+1),-1):=by rw[fI,hd];rfl
        exact⟨_,by rw[d9,Zb uQ.o,<-qm.o];simp only;rw[pj]⟩
       rw[hd]at iD;simp only[Zq]at iD⊢;clear hd;go_wp2_with fail;go_meet
       case rel=>exact⟨aA s (k5+1+1),zl.trans jd,iD,yI,nK s _ zA⟩
    case rest=>
     obtain⟨k6,ru,sW,nD,mO⟩:=hcut;clear jB Du;obtain⟨pt,fQ⟩:=ny.o;obtain⟨pw,sX⟩:=nD.o;obtain⟨wh,fr,dot,ex,ec,sg,el,n1,n2,n3,n4,n5,n6,n7,n8,n9,n10,n11,n12⟩:=MY hs gu.o od.o fQ sX;obtain⟨X,hX⟩:∃X,X=kI ((s.extract k1 k3).data.toList++pt.data.toList) (((k3-k1:Za):O)+pw):=⟨_,rfl⟩
     have HF:XX (R=(Ze X,k6,-1)):=by show _=_;rw[HR.o,hX];exact rQ gu.o od.o fQ sX
     obtain⟨nv,ok,xG,xF⟩:∃nv ok,GZ ng X=.tuple #[.int .i64 nv,.bool ok]/\ok=X.isSome/\nv=(if ng then -(X.getD 0)else X.getD 0):=by
      cases X
      .exact⟨0,Zk,rfl,rfl,by cases ng <;> rfl⟩
      .exact⟨_,Zf,rfl,rfl,rfl⟩
     have pN:XX (ok=X.isSome/\nv=(if ng then -(X.getD 0)else X.getD 0)):=xF;have DJ:XX (∀W,dS W->Zr prog 70 #[.string (s.extract k k6)] W λe w'=>e=.returned (.tuple #[.int .i64 nv,.bool ok])/\Zl W.heap.size W w'):=by
      intro W hW;rw[<-xG,n1,hX,<-n12,AK.o];exact Nh _ wh fr dot ex ec sg el W hW n2 n3 n4 n5 n6 n7 n8 n9
     have b1:(k:O)<=(k6:O):=by omega
     have b2:(k6:O)<=(s.size:O):=by omega
     obtain⟨y0,y1,y2,y3,yf⟩:=iq sW.1;have q8:XX (PS wc b s k6 op lg J):=sW;have nc:XX (dS wc):=HE.o.but ru fD;clear fQ sX n1 n2 n3 n4 n5 n6 n7 n8 n9 n12 hX xG xF sW y2 y3 ny nD od;go_wp2_with fail
     go_region_with (go_at_call 70;(refine(DJ.o wc.drew nc.o).mono ?_;rintro e wz ⟨rfl,oD⟩))
     all_goals
      have sJ:PS wz b s k6 op lg J:=PS.below (w:=wc.drew) q8.o oD;have xj:ab b w wz:=(ru.drew).of_below oD;have wP:XX (PS wz b s k6 op lg J):=sJ;obtain⟨z0,z1,z2,z3,zf⟩:=iq sJ.1;clear sJ oD z0 z1 z2;cases ok
      .go_wp2_with fail;go_ret2;have Ev:X=Zi:=MU pN.o.1;refine⟨Zf,.inr ⟨by rw[HF.o];simp only;omega,by rw[HF.o,Ev];rfl,X,by rw[HF.o],?_⟩,xj.setCell _ _,by rw[HF.o];exact wP.o.large Zf⟩;rw[<-pN.o.2];rfl
      .go_wp2_with fail;go_ret2;have zj:uB lg (Ze X)=lg:=MV pN.o.1;refine⟨lg,.inr ⟨by rw[HF.o];simp only;omega,by rw[HF.o];exact zj.symm,X,by rw[HF.o],?_⟩,xj,by rw[HF.o];exact wP.o⟩;rw[<-pN.o.2];rfl
   .have nD:XX (∃p,d9 s k5 (-1)=(p,k5,-1)):=by
     show ∃p,_;refine⟨0,?_⟩;rw[d9,ct,Zc];rintro(h|h)
     .exact Ib (by rw[<-HC.o];exact(iT (by omega)).2 h)
     .exact rJ (by rw[<-HC.o];exact(iT (by omega)).2 h)
    go_wp2_with fail;refine(iW b s k5 op lg 101 _ qo.o vH hs (by rw[HC.o];exact Ib)).mono ?_;rintro e w60 ⟨rfl,Ez,E5⟩;go_wp2_with fail;refine(iW b s k5 op lg 69 _ E5 vH hs (by rw[HC.o];exact rJ)).mono ?_;rintro e w6 ⟨rfl,xm,sW⟩;have ru:ab b w w6:=(bP.trans Ez).trans xm;clear xm bP qo E5 Ez;obtain⟨pt,fQ⟩:=ny.o;obtain⟨pw,sX⟩:=nD.o;obtain⟨wh,fr,dot,ex,ec,sg,el,n1,n2,n3,n4,n5,n6,n7,n8,n9,n10,n11,n12⟩:=MY hs gu.o od.o fQ sX;obtain⟨X,hX⟩:∃X,X=kI ((s.extract k1 k3).data.toList++pt.data.toList) (((k3-k1:Za):O)+pw):=⟨_,rfl⟩
    have HF:XX (R=(Ze X,k5,-1)):=by show _=_;rw[HR.o,hX];exact rQ gu.o od.o fQ sX
    obtain⟨nv,ok,xG,xF⟩:∃nv ok,GZ ng X=.tuple #[.int .i64 nv,.bool ok]/\ok=X.isSome/\nv=(if ng then -(X.getD 0)else X.getD 0):=by
     cases X
     .exact⟨0,Zk,rfl,rfl,by cases ng <;> rfl⟩
     .exact⟨_,Zf,rfl,rfl,rfl⟩
    have pN:XX (ok=X.isSome/\nv=(if ng then -(X.getD 0)else X.getD 0)):=xF;have DJ:XX (∀W,dS W->Zr prog 70 #[.string (s.extract k k5)] W λe w'=>e=.returned (.tuple #[.int .i64 nv,.bool ok])/\Zl W.heap.size W w'):=by
     intro W hW;rw[<-xG,n1,hX,<-n12,AK.o];exact Nh _ wh fr dot ex ec sg el W hW n2 n3 n4 n5 n6 n7 n8 n9
    have b1:(k:O)<=(k5:O):=by omega
    have b2:(k5:O)<=(s.size:O):=by omega
    obtain⟨y0,y1,y2,y3,yf⟩:=iq sW.1;have q8:XX (PS w6 b s k5 op lg J):=sW;have nc:XX (dS w6):=HE.o.but ru fD;clear fQ sX n1 n2 n3 n4 n5 n6 n7 n8 n9 n12 hX xG xF sW y2 y3 ny nD od;go_wp2_with fail
    go_region_with (go_at_call 70;(refine(DJ.o w6.drew nc.o).mono ?_;rintro e wz ⟨rfl,oD⟩))
    all_goals
     have sJ:PS wz b s k5 op lg J:=PS.below (w:=w6.drew) q8.o oD;have xj:ab b w wz:=(ru.drew).of_below oD;have wP:XX (PS wz b s k5 op lg J):=sJ;obtain⟨z0,z1,z2,z3,zf⟩:=iq sJ.1;clear sJ oD z0 z1 z2;cases ok
     .go_wp2_with fail;go_ret2;have Ev:X=Zi:=MU pN.o.1;refine⟨Zf,.inr ⟨by rw[HF.o];simp only;omega,by rw[HF.o,Ev];rfl,X,by rw[HF.o],?_⟩,xj.setCell _ _,by rw[HF.o];exact wP.o.large Zf⟩;rw[<-pN.o.2];rfl
     .go_wp2_with fail;go_ret2;have zj:uB lg (Ze X)=lg:=MV pN.o.1;refine⟨lg,.inr ⟨by rw[HF.o];simp only;omega,by rw[HF.o];exact zj.symm,X,by rw[HF.o],?_⟩,xj,by rw[HF.o];exact wP.o⟩;rw[<-pN.o.2];rfl
theorem ahw(b:Za)(s:Zg)(k:Za)(op:O)(lg:Zh)(w:World)(hp:PS w b s k op lg J)(hE:dS w)(fD:15<=b)(hk:k<=s.size)(hs:s.size<=1000):
 Zr prog 37 #[.pointer (Ze ⟨b,0,Zi⟩)] w λe w'=>∃lg',XX (Kj J (nI s k) (decide (gb s k=45)) lg e lg')/\ab b w w'/\PS w' b s (nI s k).2.1 op lg' J:=by
 rw[MW];exact ahv b s k op lg w hp hE fD hk hs
def j6(s:Zg)(k:Za):Zg×Za×O:=
 if gb s k≠34 then(⟨#[]⟩,k,k)
 else if 0<=(aw s k).2.2 then(⟨#[]⟩,(aw s k).2)
 else if gb s (ak s (aw s k).2.1)≠58 then(⟨#[]⟩,ak s (aw s k).2.1,((ak s (aw s k).2.1:Za):O))
 else(⟨(aw s k).1.toArray⟩,ak s (ak s (aw s k).2.1+1),-1)
theorem afZ(b:Za)(s:Zg)(k:Za)(op:O)(lg:Zh)(w:World)(hp:PS w b s k op lg J)(hT:kE w)(fD:15<=b)(hk:k<=s.size)(hs:s.size<=1000):
 Zr prog 105 #[.pointer (Ze ⟨b,0,Zi⟩)] w λe w'=>e=.returned (.tuple #[.string (j6 s k).1,fK J (j6 s k).2])/\ab b w w'/\PS w' b s (j6 s k).2.1 op lg J:=by
 have HP:XX (PS w b s k op lg J):=hp;have HT:XX (kE w):=hT;have bF:=wm s k;obtain⟨R,hR⟩:∃R,R=j6 s k:=⟨_,rfl⟩
 have HR:XX (R=j6 s k):=hR;rw[<-hR];clear hp hT hR;by_cases gV:pk s k=34
 .have HC:XX (pk s k=34):=gV;have HG:XX (gb s k=34):=(iT (by omega)).1 gV;obtain⟨t,kt,bt,Hk⟩:∃t kt bt,aw s k=(t,kt,bt):=⟨_,_,_,rfl⟩
  have pM:XX (aw s k=(t,kt,bt)):=Hk;have yA:XX (bt<0->kt<=s.size):=λh=>by have:=An (s:=s) (k:=k) hk (by rw[Hk];exact h);rw[Hk]at this;exact this
  clear gV bF Hk;by_cases aM:0<=bt
  .have HF:XX (R=(⟨#[]⟩,kt,bt)):=by show _=_;rw[HR.o,j6,Zc (by rw[HG.o];simp),pM.o];simp only;rw[Zb aM]
   go_enter func105,ntmps105;go_wp2_with fail;refine(eT b s k op lg _ HP.o hk hs).mono ?_;rintro e w1 ⟨rfl,n1,rfl⟩;rw[HC.o];go_wp2_with fail;refine(FA b s k op lg _ (HP.o.drewN _) HT.o fD hs HG.o).mono ?_;rintro e w2 ⟨rfl,ah,bb⟩;rw[pM.o]at bb;rw[pM.o,fK,Zc (by simp only;omega),aG];go_wp2_with fail;go_ret2;refine⟨?_,((ab.refl _ _).drewN _).trans ah,by rw[HF.o];exact bb⟩;rw[HF.o,fK,Zc (by simp only;omega)];rfl
  .have lJ:kt<=s.size:=yA.o (by omega);have eQ:=iH s kt lJ;have iz:XX (R=if gb s (ak s kt)≠58 then(⟨#[]⟩,ak s kt,((ak s kt:Za):O))else(⟨t.toArray⟩,ak s (ak s kt+1),-1)):=by
    show _=_;rw[HR.o,j6,Zc (by rw[HG.o];simp),pM.o];simp only;rw[Zc aM]
   by_cases h58:pk s (ak s kt)=58
   .have RN:gb s (ak s kt)=58:=(iT (by omega)).1 h58;have ai:=cC (s:=s) (k:=ak s kt) (by omega);have HF:XX (R=(⟨t.toArray⟩,ak s (ak s kt+1),-1)):=by show _=_;rw[iz.o,Zc (by rw[RN];simp)]
    have uM:XX (pk s (ak s kt)=58):=h58;clear h58 RN iz;go_enter func105,ntmps105;go_wp2_with fail;refine(eT b s k op lg _ HP.o hk hs).mono ?_;rintro e w1 ⟨rfl,n1,rfl⟩;rw[HC.o];go_wp2_with fail;refine(FA b s k op lg _ (HP.o.drewN _) HT.o fD hs HG.o).mono ?_;rintro e w2 ⟨rfl,ah,bb⟩;rw[pM.o]at bb;rw[pM.o,fK,Zb (by simp only;omega)];go_wp2_with fail;refine(xM b s kt op lg _ bb lJ hs).mono ?_;rintro e w3 ⟨rfl,ap,bk⟩;go_wp2_with fail;refine(pu b s (ak s kt) op lg 58 _ bk eQ hs uM.o).mono ?_;rintro e w4 ⟨rfl,aB,bg⟩;go_wp2_with fail;refine(xM b s (ak s kt+1) op lg _ bg ai hs).mono ?_;rintro e w5 ⟨rfl,bP,dB⟩;go_wp2_with fail;go_ret2;refine⟨?_,((((ab.refl _ _).drewN _).trans ah).trans ap).trans (aB.trans bP),by rw[HF.o];exact dB⟩;rw[HF.o,fK,Zb (by simp only;omega)];rfl
   .have HF:XX (R=(⟨#[]⟩,ak s kt,((ak s kt:Za):O))):=by show _=_;rw[iz.o,Zb (λh=>h58 ((iT (by omega)).2 h))]
    have uM:XX (pk s (ak s kt)≠58):=h58;clear h58 iz;go_enter func105,ntmps105;go_wp2_with fail;refine(eT b s k op lg _ HP.o hk hs).mono ?_;rintro e w1 ⟨rfl,n1,rfl⟩;rw[HC.o];go_wp2_with fail;refine(FA b s k op lg _ (HP.o.drewN _) HT.o fD hs HG.o).mono ?_;rintro e w2 ⟨rfl,ah,bb⟩;rw[pM.o]at bb;rw[pM.o,fK,Zb (by simp only;omega)];go_wp2_with fail;refine(xM b s kt op lg _ bb lJ hs).mono ?_;rintro e w3 ⟨rfl,ap,bk⟩;go_wp2_with fail;refine(iW b s (ak s kt) op lg 58 _ bk eQ hs uM.o).mono ?_;rintro e w4 ⟨rfl,aB,bg⟩;go_wp2_with fail;refine(pC b s (ak s kt) op lg _ bg).mono ?_;rintro e w5 ⟨rfl,n5,rfl⟩;go_wp2_with fail;go_ret2;refine⟨?_,(((((ab.refl _ _).drewN _).trans ah).trans ap).trans aB).drewN _,by rw[HF.o];exact bg.drewN _⟩;rw[HF.o,fK,Zc (by simp only;omega)];rfl
 .have HF:XX (R=(⟨#[]⟩,k,(k:O))):=by show _=_;rw[HR.o,j6,Zb (λh=>gV ((iT (by omega)).2 h))]
  have bj:(pk s k != 34)=Zf:=by rw[bne_iff_ne];exact gV
  clear gV;go_enter func105,ntmps105;go_wp2_with fail;refine(eT b s k op lg _ HP.o hk hs).mono ?_;rintro e w1 ⟨rfl,n1,rfl⟩;go_wp2_with fail;refine(pC b s k op lg _ (HP.o.drewN _)).mono ?_;rintro e w2 ⟨rfl,n2,rfl⟩;go_wp2_with fail;go_ret2;refine⟨?_,(ab.refl _ _).drewN _,by rw[HF.o];exact HP.o.drewN _⟩;rw[HF.o,fK,Zc (by simp only;omega)];rfl
theorem Jj:∀(l:Zd Zj) (k:Za),(aQ s k (-1) l).2=-1\/(aQ s k (-1) l).2=((aQ s k (-1) l).1:O)
 |[],k=>.inl rfl
 |c::cs,k=>by
  rw[aQ];split
  .exact Jj cs (k+1)
  .right;exact rp k
theorem acv(s:Zg)(k:Za):(cO s k).2.2=-1\/(cO s k).2.2=((cO s k).2.1:O):=by
 unfold cO;split
 .have:=(Md s (k+1)).2.2;simp only;split
  .exact this
  .exact this
 .split
  .exact .inl rfl
  .exact .inr rfl
theorem Bs{lo hi:O}(ik:0<=lo)(h:bad=-1\/bad=(k:O)):(dw s k bad lo hi).2.2=-1\/(dw s k bad lo hi).2.2=((dw s k bad lo hi).2.1:O):=by
 unfold dw;split
 .rename_i hc
  have:=qC (show 0<=cv s k bad by omega);rcases h with h|h
  .exact .inl h
  .omega
 .right
  rcases h with h|h
  .rw[h];exact rp k
  .show oA k bad=(k:O);rw[xd k (show 0<=bad by omega)];exact h
theorem agi(s:Zg)(k:Za):(et s k (-1)).2=-1\/(et s k (-1)).2=((et s k (-1)).1:O):=by
 have h1:=Bs (s:=s) (k:=k) (lo:=194) (hi:=244) (by omega) (.inl rfl);obtain⟨a,k1,b1,e1⟩:∃a k1 b1,dw s k (-1) 194 244=(a,k1,b1):=⟨_,_,_,rfl⟩
 rw[e1]at h1;simp only at h1;have h2:=λlo hi (ik:(0:O)<=lo)=>Bs (s:=s) (k:=k1) (bad:=b1) (lo:=lo) (hi:=hi) ik h1
 simp only[et,e1];have ik:(0:O)<=(if a=240 then 144 else if a=224 then 160 else 128):=by
  split
  .omega
  .split <;> omega
 have h3:=h2 _ (if a=244 then 143 else if a=237 then 159 else 191) ik;split
 .split
  .exact Bs (by omega) (Bs (by omega) h3)
  .exact Bs (by omega) h3
 .split
  .exact Bs (by omega) h3
  .exact h3
theorem I7:∀(f k:Za) (acc:Zd Zj),(dR s f k acc).2.2=-1\/(dR s f k acc).2.2=((dR s f k acc).2.1:O)
 |0,k,acc=>.inr rfl
 |f+1,k,acc=>by
  rw[dR];split
  .exact .inl rfl
  .split
   .exact .inr rfl
   .split
    .split
     .exact I7 f _ _
     .exact agi s k
    .split
     .split
      .exact I7 f _ _
      .exact acv s (k+1)
     .exact I7 f _ _
theorem UY(s:Zg)(k:Za):(aw s k).2.2=-1\/(aw s k).2.2=((aw s k).2.1:O):=by
 rw[aw];split
 .exact I7 _ _ _
 .exact .inr rfl
theorem Uz(s:Zg)(k:Za):(fI s k).2.2=-1\/(fI s k).2.2=((fI s k).2.1:O):=by
 rw[fI];split
 .exact .inl rfl
 .exact .inr rfl
theorem ag1(s:Zg)(k:Za):(eZ s k).2.2=-1\/(eZ s k).2.2=((eZ s k).2.1:O):=by
 rw[eZ];split
 .exact Uz _ _
 .exact .inl rfl
theorem acG(h:bad=-1\/bad=(k:O)):(d9 s k bad).2.2=-1\/(d9 s k bad).2.2=((d9 s k bad).2.1:O):=by
 rw[d9];split
 .exact Uz _ _
 .exact h
theorem agE(s:Zg)(k:Za):(dQ s k).2.2=-1\/(dQ s k).2.2=((dQ s k).2.1:O):=by
 rw[dQ];split
 .exact .inr rfl
 .exact acG (ag1 _ _)
theorem agB(s:Zg)(k:Za):(nI s k).2.2=-1\/(nI s k).2.2=((nI s k).2.1:O):=by
 unfold nI;split
 .exact .inr rfl
 .exact agE s k
theorem Bc(h:bad=-1\/bad=(k:O))(h0:¬bad<0):bad.toNat=k/\bad=(k:O):=by omega
theorem CE(n:Za)(s:Zg)(k:Za)(lg:Zh):fu n s (ak s k) lg=fu n s k lg:=by
 cases n with
 |zero=>simp only[fu,CK]
 |succ n=>simp only[fu,CK]
def xJ(n:Za)(s:Zg)(st:Zd Zg×Zd (VT n))(k:Za)(lg:Zh):Zu Za ((Zd Zg×Zd (VT n))×Za×Zh):=
 if 0<=(j6 s k).2.2 then .error (j6 s k).2.1
 else(fu n s (j6 s k).2.1 lg).map λr=>((jP st.1 (j6 s k).1,fB st.1 st.2 (j6 s k).1 r.1),r.2)
def Cn(n:Za)(s:Zg)(st:Zd (VT n))(k:Za)(lg:Zh):Zu Za (Zd (VT n)×Za×Zh):=(fu n s k lg).map λr=>(st++[r.1],r.2)
def Cv(n:Za)(s:Zg)(f:Za)(fst:Zh)(k:Za)(lg:Zh)(st:Zd Zg×Zd (VT n)):Zu Za ((Zd Zg×Zd (VT n))×Za×Zh):=f8 (fu n s) s f fst k lg st.1 st.2
structure Gz{σ:Type}(s:Zg)(c:O)(step:σ->Za->Zh->Zu Za (σ×Za×Zh))(T:Za->Zh->Za->Zh->σ->Zu Za (σ×Za×Zh)):Prop where
 fin:∀f fst k lg st,gb s k=c->T (f+1) fst k lg st=.ok (st,k+1,lg)
 bad:∀f k lg st,gb s k≠c->gb s k≠44->T (f+1) Zk k lg st=.error k
 err:∀f fst k lg st p,gb s k≠c->(fst=Zf\/gb s k=44)->step st (ak s (if fst then k else k+1)) lg=.error p->T (f+1) fst k lg st=.error p
 next:∀f fst k lg st r,gb s k≠c->(fst=Zf\/gb s k=44)->step st (ak s (if fst then k else k+1)) lg=.ok r->T (f+1) fst k lg st=T f Zk (ak s r.2.1) r.2.2 r.1
theorem af3(n:Za)(s:Zg):Gz s 93 (Cn n s) (gH (fu n s) s) where
 fin f fst k lg st h:=Th h
 bad f k lg st h h2:=MJ h h2
 err f fst k lg st p h h2 hs:=by
  rw[Cn,CE]at hs;refine MK h h2 ?_;cases hv:fu n s (if fst=Zf then k else k+1) lg with
  |error q=>rw[hv]at hs;injection hs with hs;rw[hs]
  |ok r=>rw[hv]at hs;cases hs
 next f fst k lg st r h h2 hs:=by
  rw[Cn,CE]at hs;cases hv:fu n s (if fst=Zf then k else k+1) lg with
  |error q=>rw[hv]at hs;cases hs
  |ok x=>
   rw[hv]at hs;injection hs with hs;rw[<-hs];exact ML h h2 hv
theorem agJ(n:Za)(s:Zg):Gz s 125 (xJ n s) (Cv n s) where
 fin f fst k lg st h:=TI h
 bad f k lg st h h2:=M0 h h2
 err f fst k lg st p h h2 hs:=by
  unfold xJ at hs;by_cases hq:gb s (ak s (if fst=Zf then k else k+1))≠34
  .rw[j6,Zb hq]at hs;simp only at hs;rw[Zb (by omega)]at hs;injection hs with hs;have ht:aw s (ak s (if fst=Zf then k else k+1))=([],ak s (if fst=Zf then k else k+1),((ak s (if fst=Zf then k else k+1):Za):O)):=by rw[aw,Zc hq]
   have:=IM (item:=fu n s) (f:=f) (lg:=lg) (ks:=st.1) (vs:=st.2) h h2 rfl ht (by simp only;omega);rw[Cv,this,<-hs];rfl
  .have cQ:=UY s (ak s (if fst=Zf then k else k+1));rw[j6,Zc hq]at hs;by_cases hb:0<=(aw s (ak s (if fst=Zf then k else k+1))).2.2
   .rw[Zb hb]at hs;simp only at hs;rw[Zb hb]at hs;injection hs with hs;have:=IM (item:=fu n s) (f:=f) (lg:=lg) (ks:=st.1) (vs:=st.2) h h2 rfl rfl hb;rw[Cv,this,<-hs,(Bc cQ (by omega)).1]
   .rw[Zc hb]at hs;by_cases hcol:gb s (ak s (aw s (ak s (if fst=Zf then k else k+1))).2.1)≠58
    .rw[Zb hcol]at hs;simp only at hs;rw[Zb (by omega)]at hs;injection hs with hs;have:=M1 (item:=fu n s) (f:=f) (lg:=lg) (ks:=st.1) (vs:=st.2) h h2 rfl rfl (by omega) hcol;rw[Cv,this,<-hs]
    .rw[Zc hcol]at hs;simp only at hs;rw[Zc (by omega),CE]at hs;cases hv:fu n s (ak s (aw s (ak s (if fst=Zf then k else k+1))).2.1+1) lg with
     |error q=>
      rw[hv]at hs;injection hs with hs;subst hs;exact M2 h h2 rfl rfl (by omega) (by simpa using hcol) hv
     |ok x=>rw[hv]at hs;cases hs
 next f fst k lg st r h h2 hs:=by
  unfold xJ at hs;by_cases hq:gb s (ak s (if fst=Zf then k else k+1))≠34
  .rw[j6,Zb hq]at hs;simp only at hs;rw[Zb (by omega)]at hs;cases hs
  .rw[j6,Zc hq]at hs;by_cases hb:0<=(aw s (ak s (if fst=Zf then k else k+1))).2.2
   .rw[Zb hb]at hs;simp only at hs;rw[Zb hb]at hs;cases hs
   .rw[Zc hb]at hs;by_cases hcol:gb s (ak s (aw s (ak s (if fst=Zf then k else k+1))).2.1)≠58
    .rw[Zb hcol]at hs;simp only at hs;rw[Zb (by omega)]at hs;cases hs
    .rw[Zc hcol]at hs;simp only at hs;rw[Zc (by omega),CE]at hs;cases hv:fu n s (ak s (aw s (ak s (if fst=Zf then k else k+1))).2.1+1) lg with
     |error q=>rw[hv]at hs;cases hs
     |ok x=>
      rw[hv]at hs;injection hs with hs;rw[<-hs];exact M3 h h2 rfl rfl (by omega) (by simpa using hcol) hv
end Go.Proofs.YtdlgkgfeoiohiaaGreatDoor
