/- Part 17. -/
import Derived.Test.YtdlgkgfeoiohiaaGreatDoorA12
import Derived.Test.YtdlgkgfeoiohiaaGreatDoorA15
import Derived.Test.YtdlgkgfeoiohiaaGreatDoorA16
open Bool renaming false -> Zc,true -> Zl
open Go renaming World -> Zk,bodyPost_ret -> Zm,Calls -> Zp,asAddr -> Zq,maxLen -> Zw
open Go.Calls renaming mono -> Zu
open Go.RowKit renaming Below -> Ze
open Go.RowKit.Below renaming heap_setCell -> Zn,refl -> Zo
open Go.World renaming cell? -> Zf,frozen? -> Zt
open Nat renaming le_refl -> Zi,le_of_lt -> Zr,zero_le -> Zx
open Option renaming none -> O,some -> Zb
open Prod.mk renaming inj -> Zy
open _root_ renaming Int -> Za,Nat -> Zd,if_neg -> Zg,ByteArray -> Zh,if_pos -> Zj,beq_eq_false_iff_ne -> Zv
namespace Go.Proofs.YtdlgkgfeoiohiaaGreatDoor
set_option linter.unusedVariables false
set_option maxHeartbeats 16000000
set_option maxRecDepth 100000
open Go.RowKit J Tryz
variable {w:Zk}{A:Zd->Prop}{t:Value}{u:Zh}{z M:Zd}{at':Za}
theorem aj1(n:Zd)(v:VT n)(p:Value)(w:Zk)(cH:br n w (λm=>m<w.heap.size) v p)(be:fV n v)(az:(aF n v).length<=900000):
 Zp prog 24 #[p] w λe w'=>e=.returned (.string (bs (aF n v)))/\Ze w.heap.size w w':=by
 go_enter func24,ntmps24;go_wp2_with fail;refine(Vs n v p w w.heap.size _ [] cH be (Zi _) (OB.nil _ _) (by simpa using az)).mono ?_;rintro e w1 ⟨o1,rfl,cE,je,io⟩;have oU:=ua cE;clear cH be az;go_wp2;go_ret;exact⟨by rfl,je⟩
def Au(s:Zh)(p:Value)(end_ bad:Za)(lg:Bool)(w0 w':Zk):Prop:=
 match cZ 12 s 0 Zc with
 |.error q=>bad=(q:Za)
 |.ok r=>bad=-1/\end_=((ak s r.2.1:Zd):Za)/\lg=r.2.2/\br 12 w' (λm=>w0.heap.size<=m) r.1 p
theorem acR(s:Zh)(w:Zk)(hs:s.size<=1000):
 Zp prog 49 #[.string s] w λe w'=>∃p en bad lg,e=.returned (.tuple #[p,.int .i64 en,.int .i64 bad,.bool lg])/\Ze w.heap.size w w'/\-1<=bad/\0<=en/\XX (Au s p en bad lg w w'):=by
 go_enter func49,ntmps49;go_wp2_with fail;have oB:(w.alloc (aq s 0 0 (-1) Zc)).heap[w.heap.size]?=Zb (aq s (0:Zd) 0 (-1) Zc):=aE rfl;refine((Vm 12).1 w.heap.size s 0 0 Zc _ (by decide) (by decide) oB hs (Zx _)).mono ?_;rintro e w1 ⟨p,v,k',bad',lg',rfl,dG,Mj,Sf,eP,sK,R3,If⟩;have dX:Ze w.heap.size w w1:=((Zo w.heap.size w).alloc (Zi _) (aq s 0 0 (-1) Zc)).trans (dG.below (Zi _) (by simp));cases dj:cZ 12 s 0 Zc with
 |error q=>
  have hr:=If.o;rw[dj]at hr;have rv:bad'=(q:Za):=hr;subst rv;have nh:XX (cZ 12 s 0 Zc=.error q):=dj;clear hr dj If Mj Sf R3 oB;go_wp2_with (go_at_call 79;refine(rm _ s k' 0 _ lg' _ (by exact eP) (by omega)).mono ?_;rintro e w2 ⟨rfl,ce,dc⟩)
  obtain⟨c0,c1,c2,c3,c4,hf⟩:=fS dc;have bZ:Ze w.heap.size w w2:=dX.trans (ce.below (Zi _) dX.size);clear eP dc dG ce dX c0 c2 hf;go_quiet (fail);go_wp2;refine Zm (v:=.tuple #[p,.int .i64 k',.int .i64 q,.bool lg']) (by simp[results,results49]) rfl ⟨p,k',q,lg',rfl,⟨bZ.os,bZ.tape,bZ.output,bZ.size,bZ.block⟩,by omega,by omega,?_⟩;show Au _ _ _ _ _ _ _;rw[Au,nh.o]
 |ok r=>
  have hr:=If.o;rw[dj]at hr;obtain⟨ae,ah,ap,aB⟩:bad'=-1/\v=r.1/\k'=r.2.1/\lg'=r.2.2:=hr;subst ae;have nh:XX (cZ 12 s 0 Zc=.ok r):=dj;have sd:XX (v=r.1/\k'=r.2.1/\lg'=r.2.2):=⟨ah,ap,aB⟩
  have ie:=Mj.o (by omega);clear dj If Mj Sf R3 oB ah ap aB;have tN:XX (br 12 w1 (λm=>w.heap.size<m) v p):=br.keep 12 ie (λk o hk ho=>⟨rfl,by have h:=hk;simp at h;omega⟩);clear ie;go_wp2_with (go_at_call 79;refine(rn _ s k' 0 lg' _ (by exact eP) hs).mono ?_;rintro e w2 ⟨rfl,ce,dc⟩)
  obtain⟨c0,c1,c2,c3,c4,hf⟩:=fS dc;have bZ:Ze w.heap.size w w2:=dX.trans (ce.below (Zi _) dX.size);have J2:XX (br 12 w2 (λm=>w.heap.size<=m) v p):=br.keep 12 tN.o (λk o hk ho=>⟨ce.block k (al ho) (by intro e;injection e;omega),Zr hk⟩);clear eP dc dG ce dX c0 c2 hf tN;go_quiet (fail);go_wp2;refine Zm (v:=.tuple #[p,.int .i64 (ak s k':Zd),.int .i64 (-1),.bool lg']) (by simp[results,results49]) rfl ⟨p,_,_,lg',rfl,⟨bZ.os,bZ.tape,bZ.output,bZ.size,bZ.block⟩,by omega,by omega,?_⟩;show Au _ _ _ _ _ _ _;rw[Au,nh.o];refine⟨rfl,by rw[<-sd.o.2.1],sd.o.2.2,?_⟩;rw[<-sd.o.1];exact br.keep 12 J2.o (λk o hk ho=>⟨rfl,hk⟩)
def eG(s:Zh):List UInt8×Zd×Za:=
 if 1000<s.size then([],0,1)
 else match cZ 12 s 0 Zc with
  |.error q=>([],q,5)
  |.ok r=>if ak s r.2.1<s.size then([],ak s r.2.1,5)else if r.2.2 then([],0,6)else(aF 12 r.1,0,0)
theorem aii(s:Zh)(w:Zk)(iQ:s.size<=Zw):
 Zp prog 23 #[.string s] w λe w'=>∃p,e=.returned (.tuple #[p,.int .i64 (eG s).2.1,.int .i64 (eG s).2.2])/\Ze w.heap.size w w'/\XX ((eG s).2.2=0->(eG s).2.1=0/\∃v,fV 12 v/\(eG s).1=aF 12 v/\(aF 12 v).length<=900000/\br 12 w' (λm=>w.heap.size<=m) v p/\∃k lg,cZ 12 s 0 Zc=.ok (v,k,lg))/\XX ((eG s).2.2≠0->(eG s).1=[]):=by
 unfold Zw at iQ;by_cases ns:1000<s.size
 .have e1:eG s=([],0,1):=by rw[eG,Zj ns]
  rw[e1];clear e1;go_enter func23,ntmps23;go_wp2;go_ret3;exact⟨.pointer O,rfl,Zo _ _,λh=>by simp at h,by unfold XX;intros;first|rfl|trivial⟩
 .have hs:s.size<=1000:=by omega
  have HS:XX (s.size<=1000):=hs;obtain⟨R,hR⟩:∃R,R=eG s:=⟨_,rfl⟩
  rw[<-hR];have HR:XX (R=match cZ 12 s 0 Zc with|.error q=>([],q,5)|.ok r=>if ak s r.2.1<s.size then([],ak s r.2.1,5)else if r.2.2 then([],0,6)else(aF 12 r.1,0,0)):=by show _=_;rw[hR,eG,Zg ns]
  clear hR;go_enter func23,ntmps23;go_wp2_with fail;refine(acR s w hs).mono ?_;rintro e w1 ⟨p,en,bad,lg,rfl,hB,bU,LK,ES⟩;have hF:=ES.o;unfold Au at hF;cases dj:cZ 12 s 0 Zc with
  |error q=>
   rw[dj]at hF;have rv:bad=(q:Za):=hF;subst rv;have iK:XX (R=([],q,5)):=by show _=_;rw[HR.o,dj]
   clear hF dj ES HR;go_wp2;go_ret3;exact⟨.pointer O,by rw[iK.o];rfl,hB,λh=>by rw[iK.o]at h;simp at h,λ_=>by rw[iK.o]⟩
  |ok r=>
   rw[dj]at hF;obtain⟨h1,h2,h3,h4⟩:=hF;have iK:XX (R=if ak s r.2.1<s.size then([],ak s r.2.1,5)else if r.2.2 then([],0,6)else(aF 12 r.1,0,0)):=by show _=_;rw[HR.o,dj]
   have be:=Fk s hs 12 0 Zc r.1 r.2.1 r.2.2 (Zx _) dj;have eQ:=iH s r.2.1 be.2.2.2;subst h1;subst h2;obtain⟨E,hE⟩:∃E,E=ak s r.2.1:=⟨_,rfl⟩
   rw[<-hE]at eQ;have ie:XX (br 12 w1 (λm=>w.heap.size<=m) r.1 p):=h4;have gQ:XX (fV 12 r.1/\(aF 12 r.1).length<=900000):=⟨be.1,by have:=be.2.1;have:=be.2.2.2;omega⟩
   rw[<-hE];have HE:XX (E=ak s r.2.1):=hE;have wN:XX (lg=r.2.2):=h3;have nh:XX (cZ 12 s 0 Zc=.ok r):=dj;clear dj ES HR be h3 h4 hE;by_cases ai:E<s.size
   .have nj:XX (R=([],E,5)):=by show _=_;rw[iK.o,<-HE.o,Zj ai]
    go_wp2;go_ret3;exact⟨.pointer O,by rw[nj.o];rfl,hB,λh=>by rw[nj.o]at h;simp at h,λ_=>by rw[nj.o]⟩
   .cases lg
    .have nj:XX (R=(aF 12 r.1,0,0)):=by show _=_;rw[iK.o,<-HE.o,Zg ai,<-wN.o];rfl
     go_wp2;go_ret3;exact⟨p,by rw[nj.o];rfl,hB,λ_=>⟨by rw[nj.o],r.1,gQ.o.1,by rw[nj.o],gQ.o.2,ie.o,r.2.1,r.2.2,nh.o⟩,λh=>by rw[nj.o]at h;simp at h⟩
    .have nj:XX (R=([],0,6)):=by show _=_;rw[iK.o,<-HE.o,Zg ai,<-wN.o];rfl
     go_wp2;go_ret3;exact⟨.pointer O,by rw[nj.o];rfl,hB,λh=>by rw[nj.o]at h;simp at h,λ_=>by rw[nj.o]⟩
def oh(u:Zh):Zd->Zd->Option Zd
 |0,_=>O
 |f+1,k=>if gb u k<0 then O else if gb u k=96 then Zb k else oh u f (k+1)
def nF(u:Zh):Option Zd:=oh u (u.size+1) 1
theorem Tm:∀(f k j:Zd),oh u f k=Zb j->k<=j/\j<u.size
 |0,k,j,h=>by simp[oh]at h
 |f+1,k,j,h=>by
  rw[oh]at h;by_cases h1:gb u k<0
  .rw[Zj h1]at h;cases h
  .rw[Zg h1]at h;by_cases h2:gb u k=96
   .rw[Zj h2]at h;injection h with h;subst h;exact⟨Zi _,cC (by omega)⟩
   .rw[Zg h2]at h;have:=Tm f (k+1) j h;omega
def rh(u:Zh)(w':Zk)(M:Zd)(t:Value)(z:Zd):Prop:=
 match nF u with
 |none=>z=0/\t=bD 120 0 ⟨#[]⟩ 0 (.pointer O)
 |some j=>
  if(eG (u.extract 1 j)).2.2=6 then z=j+1/\t=bD 108 0 ⟨#[]⟩ 0 (.pointer O)
  else if(eG (u.extract 1 j)).2.2=0 then z=j+1/\∃p v,t=bD 108 0 ⟨#[]⟩ 0 p/\fV 12 v/\(eG (u.extract 1 j)).1=aF 12 v/\(aF 12 v).length<=900000/\br 12 w' (λm=>M<=m) v p/\∃k lg,cZ 12 (u.extract 1 j) 0 Zc=.ok (v,k,lg)
  else z=0/\t=bD 120 0 ⟨#[]⟩ 0 (.pointer O)
theorem aga(u:Zh)(w:Zk)(hs:u.size<=1000)(h0:0<u.size):
 Zp prog 145 #[.string u] w λe w'=>∃t z,e=.returned (.tuple #[t,.int .i64 (z:Zd)])/\Ze w.heap.size w w'/\XX (rh u w' w.heap.size t z):=by
 obtain⟨E,hE⟩:∃E,E=nF u:=⟨_,rfl⟩
 have HE:XX (oh u (u.size+1) 1=E):=hE.symm;have nc:XX (nF u=E):=hE.symm;clear hE;obtain⟨W,hW⟩:∃W,W=w.alloc (.cells #[.int .u8 0,.int .i64 0,.string ⟨#[]⟩,.int .i64 0,.pointer O] 128):=⟨_,rfl⟩
 have aL:XX (W.heap[w.heap.size]?=Zb (.cells #[.int .u8 0,.int .i64 0,.string ⟨#[]⟩,.int .i64 0,.pointer O] 128 (0,0))):=by show _=_;rw[hW];exact aE rfl
 have bB:XX (Ze w.heap.size w W):=by show Ze _ _ _;rw[hW];exact(Zo _ w).alloc (Zi _) _
 go_enter func145,ntmps145;go_wp2_with fail;go_loopg [4] (u.size+1) (λg iv wr=>wr=W/\∃i:Zd,1<=i/\i<=u.size/\u.size<i+g/\iv=.int .i64 i/\oh u g i=E)
 case atStart=>exact⟨hW.symm,1,by omega,by omega,by omega,rfl,HE.o⟩
 case round=>
  obtain⟨rfl,i,aU,dL,RS,rfl,hF⟩:=hrel;obtain⟨f,rfl⟩:∃f,gk=f+1:=⟨gk-1,by omega⟩
  have HF:XX (oh u (f+1) i=E):=hF;have tR:XX (wr=w.alloc (.cells #[.int .u8 0,.int .i64 0,.string ⟨#[]⟩,.int .i64 0,.pointer O] 128)):=hW;have fd:=aL.o;have t0:wr.cell? ⟨w.heap.size,0,O⟩=Zb (.int .u8 0):=by simp[Zf,fd]
  have t1:wr.cell? ⟨w.heap.size,1,O⟩=Zb (.int .i64 0):=by simp[Zf,fd]
  have t2:wr.cell? ⟨w.heap.size,2,O⟩=Zb (.string ⟨#[]⟩):=by simp[Zf,fd]
  have t3:wr.cell? ⟨w.heap.size,3,O⟩=Zb (.int .i64 0):=by simp[Zf,fd]
  have t4:wr.cell? ⟨w.heap.size,4,O⟩=Zb (.pointer O):=by simp[Zf,fd]
  have tf:∀o,wr.frozen? ⟨w.heap.size,o,O⟩=Zc:=by intro o;simp[Zt,fd]
  clear hF HE fd hW;by_cases dy:i=u.size
  .have ig:XX (nF u=O):=by show _=_;rw[nc.o,<-HF.o,oh,nS (by omega),Zj (by decide)]
   have ai:¬((i:Za)<(u.size:Za)):=by omega
   clear dy;go_wp2;have hl:=iw w.heap.size _ _ _ _ _ (gt wr w.heap.size (.int .u8 120) (.int .i64 0) (.string ⟨#[]⟩) (.int .i64 0) (.pointer O)) (py _ _ _ _ _ aL.o);unfold gt at hl;refine Zm (v:=.tuple #[bD 120 0 ⟨#[]⟩ 0 (.pointer O),.int .i64 0]) (by simp[results,results145,bD,Zq,hl]) rfl ?_;exact⟨_,0,rfl,rV (.int .u8 120) (.int .i64 0) (.string ⟨#[]⟩) (.int .i64 0) (.pointer O) bB.o (Zi _),by show rh _ _ _ _ _;rw[rh,ig.o];exact⟨rfl,rfl⟩⟩
  .have fX:i<u.size:=by omega
   have jn:=ew fX;clear dy;by_cases h96:gb u i=96
   .have e96:(((u[i]'fX).toNat:Za) != 96)=Zc:=by rw[<-jn,h96];rfl
    have ig:XX (nF u=Zb i):=by show _=_;rw[nc.o,<-HF.o,oh,Zg (by omega),Zj h96]
    have b1:(1:Za)<=(i:Za):=by omega
    have b2:(i:Za)<=(u.size:Za):=by omega
    obtain⟨x,hx⟩:∃x,x=u.extract 1 i:=⟨_,rfl⟩
    have HX:XX (u.extract 1 i=x):=hx.symm;have Ff:x.size<=Zw:=by rw[hx,Zh.size_extract];unfold Zw;omega
    have HXS:XX (x.size<=Zw):=Ff;obtain⟨a,b,c,uv⟩:∃a b c,eG x=(a,b,c):=⟨_,_,_,rfl⟩
    have pK:XX (eG x=(a,b,c)):=uv;have tM:XX (Zp prog 23 #[.string x] wr λe w'=>∃p,e=.returned (.tuple #[p,.int .i64 b,.int .i64 c])/\Ze wr.heap.size wr w'/\XX (c=0->b=0/\∃v,fV 12 v/\a=aF 12 v/\(aF 12 v).length<=900000/\br 12 w' (λm=>wr.heap.size<=m) v p/\∃k lg,cZ 12 x 0 Zc=.ok (v,k,lg))/\XX (c≠0->a=[])):=by
     have:=aii x wr Ff;rw[uv]at this;exact this
    clear h96 jn hx Ff uv HF;go_wp2_with fail;rw[HX.o];refine Zu tM.o ?_;rintro e w1 ⟨p,rfl,ae,oK,dM⟩;have cV:=tX ae (al aL.o) aL.o;have lh:=aa cV;have aT:XX (Ze w.heap.size w w1):=bB.o.trans (ae.mono (Zr (al aL.o)));have s0:w1.cell? ⟨w.heap.size,0,O⟩=Zb (.int .u8 0):=by simp[Zf,cV]
    have s1:w1.cell? ⟨w.heap.size,1,O⟩=Zb (.int .i64 0):=by simp[Zf,cV]
    have s2:w1.cell? ⟨w.heap.size,2,O⟩=Zb (.string ⟨#[]⟩):=by simp[Zf,cV]
    have s3:w1.cell? ⟨w.heap.size,3,O⟩=Zb (.int .i64 0):=by simp[Zf,cV]
    have s4:w1.cell? ⟨w.heap.size,4,O⟩=Zb (.pointer O):=by simp[Zf,cV]
    have sf:∀o,w1.frozen? ⟨w.heap.size,o,O⟩=Zc:=by intro o;simp[Zt,cV]
    have Mt:w.heap.size<wr.heap.size:=al aL.o;clear t0 t1 t2 t3 t4 tf cV dM tM;by_cases h6:c=6
    .subst h6;clear oK;go_wp2;have hl:=iw w.heap.size _ _ _ _ _ (gt w1 w.heap.size (.int .u8 108) (.int .i64 0) (.string ⟨#[]⟩) (.int .i64 0) (.pointer O)) (py _ _ _ _ _ lh.o);unfold gt at hl;refine Zm (v:=.tuple #[bD 108 0 ⟨#[]⟩ 0 (.pointer O),.int .i64 ((i:Za)+1)]) (by simp[results,results145,bD,Zq,hl]) rfl ?_;exact⟨_,i+1,by rfl,rV (.int .u8 108) (.int .i64 0) (.string ⟨#[]⟩) (.int .i64 0) (.pointer O) aT.o (Zi _),by show rh _ _ _ _ _;rw[rh,ig.o];simp only;rw[HX.o,pK.o,Zj rfl];exact⟨by first|rfl|trivial,by first|rfl|trivial⟩⟩
    .have e6:(c==6)=Zc:=Zv.2 h6;by_cases fW:c=0
     .subst fW;obtain⟨Ls,v,be,hv,az,cH,kk,lgk,Sg⟩:=oK.o rfl;have aai:XX (cZ 12 x 0 Zc=.ok (v,kk,lgk)):=Sg;have ie:XX (br 12 w1 (λm=>wr.heap.size<=m) v p):=cH;have gQ:XX (fV 12 v/\a=aF 12 v/\(aF 12 v).length<=900000):=⟨be,hv,az⟩
      obtain⟨pm,a1,a2,a3,a4,a5,a6,pd,hpA,hph⟩:=br.some1 12 cH;have HPP:XX (p=.pointer (Zb ⟨pm,0,O⟩)):=pd;rw[pd];clear oK Ls be hv az cH pd hpA hph Sg;go_wp2;have hl:=iw w.heap.size _ _ _ _ _ (gt w1 w.heap.size (.int .u8 108) (.int .i64 0) (.string ⟨#[]⟩) (.int .i64 0) (.pointer (Zb ⟨pm,0,O⟩))) (py _ _ _ _ _ lh.o);unfold gt at hl;refine Zm (v:=.tuple #[bD 108 0 ⟨#[]⟩ 0 (.pointer (Zb ⟨pm,0,O⟩)),.int .i64 ((i:Za)+1)]) (by simp[results,results145,bD,Zq,hl]) rfl ?_;refine⟨_,i+1,by rfl,rV (.int .u8 108) (.int .i64 0) (.string ⟨#[]⟩) (.int .i64 0) (.pointer (Zb ⟨pm,0,O⟩)) aT.o (Zi _),?_⟩;show rh _ _ _ _ _;rw[rh,ig.o];simp only;rw[HX.o,pK.o,Zg (by simp),Zj rfl];refine⟨by first|rfl|trivial,.pointer (Zb ⟨pm,0,O⟩),v,rfl,gQ.o.1,gQ.o.2.1,gQ.o.2.2,?_,kk,lgk,aai.o⟩;rw[<-HPP.o];refine br.keep 12 ie.o (λk o hk ho=>⟨?_,by omega⟩);have kO:k≠w.heap.size:=by omega
      rw[Zn _ _ _ _ (by simpa using kO),Zn _ _ _ _ (by simpa using kO),Zn _ _ _ _ (by simpa using kO),Zn _ _ _ _ (by simpa using kO),Zn _ _ _ _ (by simpa using kO)]
     .have ec0:(c != 0)=Zl:=by rw[bne_iff_ne];exact fW
      have HC:XX (c≠6/\c≠0):=⟨h6,fW⟩
      clear oK h6 fW;go_wp2;have hl:=iw w.heap.size _ _ _ _ _ (gt w1 w.heap.size (.int .u8 120) (.int .i64 0) (.string ⟨#[]⟩) (.int .i64 0) (.pointer O)) (py _ _ _ _ _ lh.o);unfold gt at hl;refine Zm (v:=.tuple #[bD 120 0 ⟨#[]⟩ 0 (.pointer O),.int .i64 0]) (by simp[results,results145,bD,Zq,hl]) rfl ?_;exact⟨_,0,rfl,rV (.int .u8 120) (.int .i64 0) (.string ⟨#[]⟩) (.int .i64 0) (.pointer O) aT.o (Zi _),by show rh _ _ _ _ _;rw[rh,ig.o];simp only;rw[HX.o,pK.o,Zg HC.o.1,Zg HC.o.2];exact⟨by first|rfl|trivial,by first|rfl|trivial⟩⟩
   .have e96:(((u[i]'fX).toNat:Za) != 96)=Zl:=by rw[bne_iff_ne,<-jn];exact h96
    have ja:XX (oh u f (i+1)=E):=by show _=_;rw[<-HF.o,oh,Zg (by omega),Zg h96]
    clear h96 jn HF t0 t1 t2 t3 t4 tf;go_wp2;go_roundg f
    case measure=>omega
    case rel=>exact⟨by first|rfl|exact tR.o.symm,i+1,by omega,by omega,by omega,by go_num,ja.o⟩
structure aj where
 kind:Za
 txt:Zh
 num:Za
 val:Option (VT 12)
def lC:aj:=⟨120,⟨#[]⟩,0,O⟩
def lQ:List Zh:=[⟨#[38,38]⟩,⟨#[124,124]⟩,⟨#[61,61]⟩,⟨#[33,61]⟩,⟨#[60,61]⟩,⟨#[62,61]⟩]
def kY:List Zh:=[⟨#[46]⟩,⟨#[42]⟩,⟨#[91]⟩,⟨#[93]⟩,⟨#[40]⟩,⟨#[41]⟩,⟨#[123]⟩,⟨#[125]⟩,⟨#[44]⟩,⟨#[58]⟩,⟨#[64]⟩,⟨#[38]⟩,⟨#[124]⟩,⟨#[33]⟩,⟨#[60]⟩,⟨#[62]⟩,⟨#[63]⟩]
def m9(u:Zh):Zd->Zd->Zd
 |0,k=>k
 | f+1,k=>if eD (gb u k) || aK (gb u k)then m9 u f (k+1)else k
def oo(u:Zh):Zd:=m9 u u.size 1
def qP(u:Zh)(j:Zd):aj×Zd:=
 if(eG (u.extract 1 j)).2.2=6 then(⟨108,⟨#[]⟩,0,O⟩,j+1)
 else if(eG (u.extract 1 j)).2.2=0 then(match cZ 12 (u.extract 1 j) 0 Zc with
  |.ok r=>(⟨108,⟨#[]⟩,0,Zb r.1⟩,j+1)
  |.error _=>(lC,0))
 else(lC,0)
def aD(u:Zh):aj×Zd:=
 if eD (gb u 0)then(⟨119,u.extract 0 (oo u),0,O⟩,oo u)
 else if gb u 0=34 then(if(aw u 0).2.2<0 then(⟨113,⟨(aw u 0).1.toArray⟩,0,O⟩,(aw u 0).2.1)else(lC,0))
 else if gb u 0=39 then(if(oL u).2=0 then(lC,0)else(⟨114,bs (oL u).1,0,O⟩,(oL u).2))
 else if gb u 0=96 then(match nF u with|none=>(lC,0)|some j=>qP u j)
 else if gb u 0=45\/aK (gb u 0)=Zl then(if(ia u).2=0 then(lC,0)else(⟨110,⟨#[]⟩,(ia u).1,O⟩,(ia u).2))
 else if 1<u.size/\ea lQ (u.extract 0 2)=Zl then(⟨115,u.extract 0 2,0,O⟩,2)
 else if ea kY (u.extract 0 1)=Zl then(⟨115,u.extract 0 1,0,O⟩,1)
 else(lC,0)
def du(w:Zk)(A:Zd->Prop)(k:aj)(at':Za)(t:Value):Prop:=
 ∃q,t=bD k.kind at' k.txt k.num (.pointer q)/\match k.val with
  |none=>q=O
  |some v=>fV 12 v/\(aF 12 v).length<=900000/\br 12 w A v (.pointer q)
theorem du.plain{kind:Za}{s:Zh}{n:Za}:du w A ⟨kind,s,n,O⟩ at' (bD kind at' s n (.pointer O)):=⟨O,rfl,rfl⟩
theorem du.keep{w':Zk}{B:Zd->Prop}{k:aj}(h:du w A k at' t)(hk:∀i o,A i->w.heap[i]?=Zb o->w'.heap[i]?=w.heap[i]?/\B i):du w' B k at' t:=by
 obtain⟨q,h1,h2⟩:=h;refine⟨q,h1,?_⟩;cases hv:k.val with
 |none=>rw[hv]at h2;exact h2
 |some v=>rw[hv]at h2;exact⟨h2.1,h2.2.1,br.keep 12 h2.2.2 hk⟩
theorem aic(h1:eD (gb u 0)=Zc)(h:gb u 0=34)(hq:tV u t z):z=(aD u).2/\du w A (aD u).1 0 t:=by
 rw[aD,h1,Zg (by simp),Zj h];unfold tV at hq;by_cases hb:(aw u 0).2.2<0
 .rw[Zj hb]at hq⊢;rw[hq.1,hq.2];exact⟨rfl,du.plain⟩
 .rw[Zg hb]at hq⊢;rw[hq.1,hq.2];exact⟨rfl,du.plain⟩
theorem aif(h1:eD (gb u 0)=Zc)(h:gb u 0=39)(hq:vd (oL u) t z):z=(aD u).2/\du w A (aD u).1 0 t:=by
 rw[aD,h1,Zg (by simp),Zg (by omega),Zj h];unfold vd at hq;by_cases hb:(oL u).2=0
 .rw[Zj hb]at hq⊢;rw[hq.1,hq.2,hb];exact⟨rfl,du.plain⟩
 .rw[Zg hb]at hq⊢;rw[hq.1,hq.2];exact⟨rfl,du.plain⟩
theorem aj8(h1:eD (gb u 0)=Zc)(h:gb u 0=45\/aK (gb u 0)=Zl)(hq:rj (ia u) t):(ia u).2=(aD u).2/\du w A (aD u).1 0 t:=by
 have gV:gb u 0≠34/\gb u 0≠39/\gb u 0≠96:=by
  rcases h with h|h
  .omega
  .have:48<=gb u 0/\gb u 0<=57:=by simpa[aK]using h
   omega
 rw[aD,h1,Zg (by simp),Zg gV.1,Zg gV.2.1,Zg gV.2.2,Zj h];unfold rj at hq;by_cases hb:(ia u).2=0
 .rw[Zj hb]at hq⊢;rw[hq,hb];exact⟨rfl,du.plain⟩
 .rw[Zg hb]at hq⊢;rw[hq];exact⟨rfl,du.plain⟩
theorem af9(h1:eD (gb u 0)=Zc)(h:gb u 0=96)(hq:rh u w M t z):z=(aD u).2/\du w (λm=>M<=m) (aD u).1 0 t:=by
 rw[aD,h1,Zg (by simp),Zg (by omega),Zg (by omega),Zj h];unfold rh at hq;cases hl:nF u with
 |none=>rw[hl]at hq;simp only at hq⊢;rw[hq.1,hq.2];exact⟨rfl,du.plain⟩
 |some j=>
  rw[hl]at hq;simp only at hq⊢;unfold qP;by_cases h6:(eG (u.extract 1 j)).2.2=6
  .rw[Zj h6]at hq⊢;rw[hq.1,hq.2];exact⟨rfl,du.plain⟩
  .rw[Zg h6]at hq⊢;by_cases hc:(eG (u.extract 1 j)).2.2=0
   .rw[Zj hc]at hq⊢;obtain⟨hz,p,v,ht,be,_,az,cH,k,lg,dj⟩:=hq;rw[dj];simp only;obtain⟨pm,_,_,_,_,_,_,pd,_⟩:=br.some1 12 cH;subst pd;exact⟨hz,_,ht,be,az,cH⟩
   .rw[Zg hc]at hq⊢;rw[hq.1,hq.2];exact⟨rfl,du.plain⟩
theorem Oe{u:Zh}:∀(f k:Zd),k<=m9 u f k/\(k<=u.size->m9 u f k<=u.size)
 |0,k=>by simp[m9]
 |f+1,k=>by
  rw[m9];cases h:(eD (gb u k) || aK (gb u k))
  .simp
  .have ih:=Oe (u:=u) f (k+1);have hk:k<u.size:=by
    rcases Zd.lt_or_ge k u.size with h'|h'
    .exact h'
    .rw[nS h']at h;simp[eD,aK]at h
   simp only[if_true];exact⟨by omega,λ_=>ih.2 (by omega)⟩
theorem Jc{w1:Zk}{k:aj}{q:Option Addr}(hB:Ze w.heap.size w w1)(hr:du w1 A k 0 (bD k.kind 0 k.txt k.num (.pointer q)))(hA:∀i,A i->w.heap.size<i/\M<=i):
 Ze w.heap.size w (gt w1 w.heap.size (.int .u8 k.kind) (.int .i64 0) (.string k.txt) (.int .i64 k.num) (.pointer q))/\du (gt w1 w.heap.size (.int .u8 k.kind) (.int .i64 0) (.string k.txt) (.int .i64 k.num) (.pointer q)) (λi=>M<=i) k 0 (bD k.kind 0 k.txt k.num (.pointer q)):=by
 refine⟨rV _ _ _ _ _ hB (Zi _),hr.keep (λi o hi ho=>⟨?_,(hA i hi).2⟩)⟩;have bj:i≠w.heap.size:=by have:=(hA i hi).1;omega
 unfold gt;rw[Zn _ _ _ _ (by simpa using bj),Zn _ _ _ _ (by simpa using bj),Zn _ _ _ _ (by simpa using bj),Zn _ _ _ _ (by simpa using bj),Zn _ _ _ _ (by simpa using bj)]
theorem Jd{k:aj}(h:du w A k 0 t):∃q,t=bD k.kind 0 k.txt k.num (.pointer q):=by obtain⟨q,h,_⟩:=h;exact⟨q,h⟩
theorem ajH(u:Zh)(w:Zk)(hs:u.size<=1000)(h0:0<u.size)(hq:gb u 0=34):
 Zp prog 95 #[.string u] w λe w'=>∃t,e=.returned (.tuple #[t,.int .i64 ((aD u).2:Zd)])/\Ze w.heap.size w w'/\XX (du w' (λm=>w.heap.size<=m) (aD u).1 0 t):=by
 obtain⟨W,hW⟩:∃W,W=w.alloc (.cells #[.int .u8 0,.int .i64 0,.string ⟨#[]⟩,.int .i64 0,.pointer O] 128):=⟨_,rfl⟩
 have aL:XX (W.heap[w.heap.size]?=Zb (.cells #[.int .u8 0,.int .i64 0,.string ⟨#[]⟩,.int .i64 0,.pointer O] 128 (0,0))):=by show _=_;rw[hW];exact aE rfl
 have bB:XX (Ze w.heap.size w W):=by show Ze _ _ _;rw[hW];exact(Zo _ w).alloc (Zi _) _
 have fO:=ew h0;have cU:0<=((u[0]'h0).toNat:Za):=by omega
 have eK:((u[0]'h0).toNat:Za)<=255:=by have:=(u[0]'h0).toNat_lt;omega
 obtain⟨c,hc⟩:∃c,c=((u[0]'h0).toNat:Za):=⟨_,rfl⟩
 have HC:XX (((u[0]'h0).toNat:Za)=c):=hc.symm;have HG:XX (gb u 0=c):=by show _=_;rw[fO,hc]
 rw[<-hc]at cU eK;obtain⟨K,z,hK⟩:∃K z,aD u=(K,z):=⟨_,_,rfl⟩
 have HK:XX (aD u=(K,z)):=hK;rw[hK];simp only;have qX:XX (eD c=Zc):=by show _=_;rw[<-HG.o,hq];rfl
 have dx:c=34:=by rw[<-HG.o];exact hq
 have HQ:=aa (aid u W hs);have rc:XX (W.heap.size=w.heap.size+1):=by show _=_;rw[hW];simp
 have yx:XX (∀t z' w',tV u t z'->z'=z/\du w' (λm=>w.heap.size+1<=m) K 0 t):=λt z' w' h=>by have:=aic (w:=w') (A:=λm=>w.heap.size+1<=m) (u:=u) (by rw[hq];rfl) hq h;rw[hK]at this;exact this
 clear fO hc hK;subst hW;subst dx;go_enter func95,ntmps95;go_wp2_with fail;rw[HC.o];refine(xI _ _ cU eK).mono ?_;rintro e w1 ⟨rfl,rfl⟩;rw[qX.o];go_wp2_with fail;refine(xe _ _ cU eK).mono ?_;rintro e w1 ⟨rfl,rfl⟩;obtain⟨dg,ls⟩:∃dg,dg=aK 34:=⟨_,rfl⟩
 rw[<-ls];clear ls;go_wp2_with fail;refine Zu HQ.o ?_;rintro e w1 ⟨t,z1,rfl,ae,s7⟩;obtain⟨tm,cH⟩:=yx.o t z1 w1 s7.o;have ie:XX (du w1 (λm=>w.heap.size+1<=m) K 0 t):=cH;rw[tm];clear cH s7 tm;have cV:=tX ae (al aL.o) aL.o;have lh:=aa cV;have aT:XX (Ze w.heap.size w w1):=bB.o.trans (ae.mono (Zr (al aL.o)));have s0:w1.cell? ⟨w.heap.size,0,O⟩=Zb (.int .u8 0):=by simp[Zf,cV]
 have s1:w1.cell? ⟨w.heap.size,1,O⟩=Zb (.int .i64 0):=by simp[Zf,cV]
 have s2:w1.cell? ⟨w.heap.size,2,O⟩=Zb (.string ⟨#[]⟩):=by simp[Zf,cV]
 have s3:w1.cell? ⟨w.heap.size,3,O⟩=Zb (.int .i64 0):=by simp[Zf,cV]
 have s4:w1.cell? ⟨w.heap.size,4,O⟩=Zb (.pointer O):=by simp[Zf,cV]
 have sf:∀o,w1.frozen? ⟨w.heap.size,o,O⟩=Zc:=by intro o;simp[Zt,cV]
 clear cV ae;obtain⟨q,hq⟩:=Jd ie.o;have tN:XX (du w1 (λm=>w.heap.size+1<=m) K 0 (bD K.kind 0 K.txt K.num (.pointer q))):=by show du _ _ _ _ _;rw[<-hq];exact ie.o
 rw[hq,bD];clear hq ie;go_wp2;have hl:=iw w.heap.size _ _ _ _ _ (gt w1 w.heap.size (.int .u8 K.kind) (.int .i64 0) (.string K.txt) (.int .i64 K.num) (.pointer q)) (py _ _ _ _ _ lh.o);unfold gt at hl;refine Zm (v:=.tuple #[bD K.kind 0 K.txt K.num (.pointer q),.int .i64 z]) (by simp[results,results95,bD,Zq,hl]) rfl ?_;have oV:=Jc (M:=w.heap.size) aT.o tN.o (λi hi=>⟨by omega,by omega⟩);exact⟨_,rfl,oV.1,oV.2⟩
theorem ajI(u:Zh)(w:Zk)(hs:u.size<=1000)(h0:0<u.size)(hq:gb u 0=39):
 Zp prog 95 #[.string u] w λe w'=>∃t,e=.returned (.tuple #[t,.int .i64 ((aD u).2:Zd)])/\Ze w.heap.size w w'/\XX (du w' (λm=>w.heap.size<=m) (aD u).1 0 t):=by
 obtain⟨W,hW⟩:∃W,W=w.alloc (.cells #[.int .u8 0,.int .i64 0,.string ⟨#[]⟩,.int .i64 0,.pointer O] 128):=⟨_,rfl⟩
 have aL:XX (W.heap[w.heap.size]?=Zb (.cells #[.int .u8 0,.int .i64 0,.string ⟨#[]⟩,.int .i64 0,.pointer O] 128 (0,0))):=by show _=_;rw[hW];exact aE rfl
 have bB:XX (Ze w.heap.size w W):=by show Ze _ _ _;rw[hW];exact(Zo _ w).alloc (Zi _) _
 have fO:=ew h0;have cU:0<=((u[0]'h0).toNat:Za):=by omega
 have eK:((u[0]'h0).toNat:Za)<=255:=by have:=(u[0]'h0).toNat_lt;omega
 obtain⟨c,hc⟩:∃c,c=((u[0]'h0).toNat:Za):=⟨_,rfl⟩
 have HC:XX (((u[0]'h0).toNat:Za)=c):=hc.symm;have HG:XX (gb u 0=c):=by show _=_;rw[fO,hc]
 rw[<-hc]at cU eK;obtain⟨K,z,hK⟩:∃K z,aD u=(K,z):=⟨_,_,rfl⟩
 have HK:XX (aD u=(K,z)):=hK;rw[hK];simp only;have qX:XX (eD c=Zc):=by show _=_;rw[<-HG.o,hq];rfl
 have dx:c=39:=by rw[<-HG.o];exact hq
 have HQ:=aa (aie u W hs h0);have rc:XX (W.heap.size=w.heap.size+1):=by show _=_;rw[hW];simp
 have yx:XX (∀t z' w',vd (oL u) t z'->z'=z/\du w' (λm=>w.heap.size+1<=m) K 0 t):=λt z' w' h=>by have:=aif (w:=w') (A:=λm=>w.heap.size+1<=m) (u:=u) (by rw[hq];rfl) hq h;rw[hK]at this;exact this
 clear fO hc hK;subst hW;subst dx;go_enter func95,ntmps95;go_wp2_with fail;rw[HC.o];refine(xI _ _ cU eK).mono ?_;rintro e w1 ⟨rfl,rfl⟩;rw[qX.o];go_wp2_with fail;refine(xe _ _ cU eK).mono ?_;rintro e w1 ⟨rfl,rfl⟩;obtain⟨dg,ls⟩:∃dg,dg=aK 39:=⟨_,rfl⟩
 rw[<-ls];clear ls;go_wp2_with fail;refine Zu HQ.o ?_;rintro e w1 ⟨t,z1,rfl,ae,s7⟩;obtain⟨tm,cH⟩:=yx.o t z1 w1 s7.o;have ie:XX (du w1 (λm=>w.heap.size+1<=m) K 0 t):=cH;rw[tm];clear cH s7 tm;have cV:=tX ae (al aL.o) aL.o;have lh:=aa cV;have aT:XX (Ze w.heap.size w w1):=bB.o.trans (ae.mono (Zr (al aL.o)));have s0:w1.cell? ⟨w.heap.size,0,O⟩=Zb (.int .u8 0):=by simp[Zf,cV]
 have s1:w1.cell? ⟨w.heap.size,1,O⟩=Zb (.int .i64 0):=by simp[Zf,cV]
 have s2:w1.cell? ⟨w.heap.size,2,O⟩=Zb (.string ⟨#[]⟩):=by simp[Zf,cV]
 have s3:w1.cell? ⟨w.heap.size,3,O⟩=Zb (.int .i64 0):=by simp[Zf,cV]
 have s4:w1.cell? ⟨w.heap.size,4,O⟩=Zb (.pointer O):=by simp[Zf,cV]
 have sf:∀o,w1.frozen? ⟨w.heap.size,o,O⟩=Zc:=by intro o;simp[Zt,cV]
 clear cV ae;obtain⟨q,hq⟩:=Jd ie.o;have tN:XX (du w1 (λm=>w.heap.size+1<=m) K 0 (bD K.kind 0 K.txt K.num (.pointer q))):=by show du _ _ _ _ _;rw[<-hq];exact ie.o
 rw[hq,bD];clear hq ie;go_wp2;have hl:=iw w.heap.size _ _ _ _ _ (gt w1 w.heap.size (.int .u8 K.kind) (.int .i64 0) (.string K.txt) (.int .i64 K.num) (.pointer q)) (py _ _ _ _ _ lh.o);unfold gt at hl;refine Zm (v:=.tuple #[bD K.kind 0 K.txt K.num (.pointer q),.int .i64 z]) (by simp[results,results95,bD,Zq,hl]) rfl ?_;have oV:=Jc (M:=w.heap.size) aT.o tN.o (λi hi=>⟨by omega,by omega⟩);exact⟨_,rfl,oV.1,oV.2⟩
theorem ajG(u:Zh)(w:Zk)(hs:u.size<=1000)(h0:0<u.size)(hq:gb u 0=96):
 Zp prog 95 #[.string u] w λe w'=>∃t,e=.returned (.tuple #[t,.int .i64 ((aD u).2:Zd)])/\Ze w.heap.size w w'/\XX (du w' (λm=>w.heap.size<=m) (aD u).1 0 t):=by
 obtain⟨W,hW⟩:∃W,W=w.alloc (.cells #[.int .u8 0,.int .i64 0,.string ⟨#[]⟩,.int .i64 0,.pointer O] 128):=⟨_,rfl⟩
 have aL:XX (W.heap[w.heap.size]?=Zb (.cells #[.int .u8 0,.int .i64 0,.string ⟨#[]⟩,.int .i64 0,.pointer O] 128 (0,0))):=by show _=_;rw[hW];exact aE rfl
 have bB:XX (Ze w.heap.size w W):=by show Ze _ _ _;rw[hW];exact(Zo _ w).alloc (Zi _) _
 have fO:=ew h0;have cU:0<=((u[0]'h0).toNat:Za):=by omega
 have eK:((u[0]'h0).toNat:Za)<=255:=by have:=(u[0]'h0).toNat_lt;omega
 obtain⟨c,hc⟩:∃c,c=((u[0]'h0).toNat:Za):=⟨_,rfl⟩
 have HC:XX (((u[0]'h0).toNat:Za)=c):=hc.symm;have HG:XX (gb u 0=c):=by show _=_;rw[fO,hc]
 rw[<-hc]at cU eK;obtain⟨K,z,hK⟩:∃K z,aD u=(K,z):=⟨_,_,rfl⟩
 have HK:XX (aD u=(K,z)):=hK;rw[hK];simp only;have qX:XX (eD c=Zc):=by show _=_;rw[<-HG.o,hq];rfl
 have dx:c=96:=by rw[<-HG.o];exact hq
 have HQ:=aa (aga u W hs h0);have rc:XX (W.heap.size=w.heap.size+1):=by show _=_;rw[hW];simp
 have yx:XX (∀t z' w',rh u w' W.heap.size t z'->z'=z/\du w' (λm=>w.heap.size+1<=m) K 0 t):=λt z' w' h=>by rw[rc.o]at h;have:=af9 (w:=w') (M:=w.heap.size+1) (u:=u) (by rw[hq];rfl) hq h;rw[hK]at this;exact this
 clear fO hc hK;subst hW;subst dx;go_enter func95,ntmps95;go_wp2_with fail;rw[HC.o];refine(xI _ _ cU eK).mono ?_;rintro e w1 ⟨rfl,rfl⟩;rw[qX.o];go_wp2_with fail;refine(xe _ _ cU eK).mono ?_;rintro e w1 ⟨rfl,rfl⟩;obtain⟨dg,ls⟩:∃dg,dg=aK 96:=⟨_,rfl⟩
 rw[<-ls];clear ls;go_wp2_with fail;refine Zu HQ.o ?_;rintro e w1 ⟨t,z1,rfl,ae,s7⟩;obtain⟨tm,cH⟩:=yx.o t z1 w1 s7.o;have ie:XX (du w1 (λm=>w.heap.size+1<=m) K 0 t):=cH;rw[tm];clear cH s7 tm;have cV:=tX ae (al aL.o) aL.o;have lh:=aa cV;have aT:XX (Ze w.heap.size w w1):=bB.o.trans (ae.mono (Zr (al aL.o)));have s0:w1.cell? ⟨w.heap.size,0,O⟩=Zb (.int .u8 0):=by simp[Zf,cV]
 have s1:w1.cell? ⟨w.heap.size,1,O⟩=Zb (.int .i64 0):=by simp[Zf,cV]
 have s2:w1.cell? ⟨w.heap.size,2,O⟩=Zb (.string ⟨#[]⟩):=by simp[Zf,cV]
 have s3:w1.cell? ⟨w.heap.size,3,O⟩=Zb (.int .i64 0):=by simp[Zf,cV]
 have s4:w1.cell? ⟨w.heap.size,4,O⟩=Zb (.pointer O):=by simp[Zf,cV]
 have sf:∀o,w1.frozen? ⟨w.heap.size,o,O⟩=Zc:=by intro o;simp[Zt,cV]
 clear cV ae;obtain⟨q,hq⟩:=Jd ie.o;have tN:XX (du w1 (λm=>w.heap.size+1<=m) K 0 (bD K.kind 0 K.txt K.num (.pointer q))):=by show du _ _ _ _ _;rw[<-hq];exact ie.o
 rw[hq,bD];clear hq ie;go_wp2;have hl:=iw w.heap.size _ _ _ _ _ (gt w1 w.heap.size (.int .u8 K.kind) (.int .i64 0) (.string K.txt) (.int .i64 K.num) (.pointer q)) (py _ _ _ _ _ lh.o);unfold gt at hl;refine Zm (v:=.tuple #[bD K.kind 0 K.txt K.num (.pointer q),.int .i64 z]) (by simp[results,results95,bD,Zq,hl]) rfl ?_;have oV:=Jc (M:=w.heap.size) aT.o tN.o (λi hi=>⟨by omega,by omega⟩);exact⟨_,rfl,oV.1,oV.2⟩
theorem U2(u:Zh)(w:Zk)(hs:u.size<=1000)(h0:0<u.size)(hq:gb u 0=45\/aK (gb u 0)=Zl):
 Zp prog 95 #[.string u] w λe w'=>∃t,e=.returned (.tuple #[t,.int .i64 ((aD u).2:Zd)])/\Ze w.heap.size w w'/\XX (du w' (λm=>w.heap.size<=m) (aD u).1 0 t):=by
 obtain⟨W,hW⟩:∃W,W=w.alloc (.cells #[.int .u8 0,.int .i64 0,.string ⟨#[]⟩,.int .i64 0,.pointer O] 128):=⟨_,rfl⟩
 have aL:XX (W.heap[w.heap.size]?=Zb (.cells #[.int .u8 0,.int .i64 0,.string ⟨#[]⟩,.int .i64 0,.pointer O] 128 (0,0))):=by show _=_;rw[hW];exact aE rfl
 have bB:XX (Ze w.heap.size w W):=by show Ze _ _ _;rw[hW];exact(Zo _ w).alloc (Zi _) _
 have fO:=ew h0;have cU:0<=((u[0]'h0).toNat:Za):=by omega
 have eK:((u[0]'h0).toNat:Za)<=255:=by have:=(u[0]'h0).toNat_lt;omega
 obtain⟨c,hc⟩:∃c,c=((u[0]'h0).toNat:Za):=⟨_,rfl⟩
 have HC:XX (((u[0]'h0).toNat:Za)=c):=hc.symm;have HG:XX (gb u 0=c):=by show _=_;rw[fO,hc]
 rw[<-hc]at cU eK;obtain⟨K,z,hK⟩:∃K z,aD u=(K,z):=⟨_,_,rfl⟩
 have HK:XX (aD u=(K,z)):=hK;rw[hK];simp only;have L4:eD (gb u 0)=Zc:=by
  rcases hq with h|h
  .rw[h];rfl
  .have:48<=gb u 0/\gb u 0<=57:=by simpa[aK]using h
   simp[eD];omega
 have qX:XX (eD c=Zc):=by show _=_;rw[<-HG.o];exact L4
 have dx:c≠34/\c≠39/\c≠96:=by
  rw[<-HG.o];rcases hq with h|h
  .omega
  .have:48<=gb u 0/\gb u 0<=57:=by simpa[aK]using h
   omega
 have m1:(c==34)=Zc:=Zv.2 dx.1;have m2:(c==39)=Zc:=Zv.2 dx.2.1;have m3:(c==96)=Zc:=Zv.2 dx.2.2;have HD:XX (c=45\/aK c=Zl):=by show _\/_;rw[<-HG.o];exact hq
 have HQ:=aa (aj5 u W hs h0);have rc:XX (W.heap.size=w.heap.size+1):=by show _=_;rw[hW];simp
 have yx:XX (∀t w',rj (ia u) t->(ia u).2=z/\du w' (λm=>w.heap.size+1<=m) K 0 t):=λt w' h=>by have:=aj8 (w:=w') (A:=λm=>w.heap.size+1<=m) (u:=u) L4 hq h;rw[hK]at this;exact this
 clear fO hc hK L4 dx hq;subst hW;go_enter func95,ntmps95;go_wp2_with fail;rw[HC.o];refine(xI _ _ cU eK).mono ?_;rintro e w1 ⟨rfl,rfl⟩;rw[qX.o];go_wp2_with fail;refine(xe _ _ cU eK).mono ?_;rintro e w1 ⟨rfl,rfl⟩;obtain⟨dg,ls⟩:∃dg,dg=aK c:=⟨_,rfl⟩
 have wI:XX (dg=aK c):=ls;rw[<-ls];clear ls;have qH:(c==45)=Zl\/((c==45)=Zc/\dg=Zl):=by
  by_cases h:c=45
  .left;exact beq_iff_eq.2 h
  .right;exact⟨Zv.2 h,by rw[wI.o];exact HD.o.resolve_left h⟩
 rcases qH with qH|⟨qH,rfl⟩
 all_goals
  go_wp2_with fail;refine Zu HQ.o ?_;rintro e w1 ⟨t,rfl,ae,s7⟩;obtain⟨tm,cH⟩:=yx.o t w1 s7.o;rw[tm];have ie:XX (du w1 (λm=>w.heap.size+1<=m) K 0 t):=cH;clear cH s7 tm;have cV:=tX ae (al aL.o) aL.o;have lh:=aa cV;have aT:XX (Ze w.heap.size w w1):=bB.o.trans (ae.mono (Zr (al aL.o)));have s0:w1.cell? ⟨w.heap.size,0,O⟩=Zb (.int .u8 0):=by simp[Zf,cV]
  have s1:w1.cell? ⟨w.heap.size,1,O⟩=Zb (.int .i64 0):=by simp[Zf,cV]
  have s2:w1.cell? ⟨w.heap.size,2,O⟩=Zb (.string ⟨#[]⟩):=by simp[Zf,cV]
  have s3:w1.cell? ⟨w.heap.size,3,O⟩=Zb (.int .i64 0):=by simp[Zf,cV]
  have s4:w1.cell? ⟨w.heap.size,4,O⟩=Zb (.pointer O):=by simp[Zf,cV]
  have sf:∀o,w1.frozen? ⟨w.heap.size,o,O⟩=Zc:=by intro o;simp[Zt,cV]
  clear cV ae;obtain⟨q,hq⟩:=Jd ie.o;have tN:XX (du w1 (λm=>w.heap.size+1<=m) K 0 (bD K.kind 0 K.txt K.num (.pointer q))):=by show du _ _ _ _ _;rw[<-hq];exact ie.o
  rw[hq,bD];clear hq ie;go_wp2;have hl:=iw w.heap.size _ _ _ _ _ (gt w1 w.heap.size (.int .u8 K.kind) (.int .i64 0) (.string K.txt) (.int .i64 K.num) (.pointer q)) (py _ _ _ _ _ lh.o);unfold gt at hl;refine Zm (v:=.tuple #[bD K.kind 0 K.txt K.num (.pointer q),.int .i64 z]) (by simp[results,results95,bD,Zq,hl]) rfl ?_;have oV:=Jc (M:=w.heap.size) aT.o tN.o (λi hi=>⟨by omega,by omega⟩);exact⟨_,rfl,oV.1,oV.2⟩
theorem ajK(u:Zh)(w:Zk)(hs:u.size<=1000)(h0:0<u.size)(hq:eD (gb u 0)=Zl):
 Zp prog 95 #[.string u] w λe w'=>∃t,e=.returned (.tuple #[t,.int .i64 ((aD u).2:Zd)])/\Ze w.heap.size w w'/\XX (du w' (λm=>w.heap.size<=m) (aD u).1 0 t):=by
 obtain⟨W,hW⟩:∃W,W=w.alloc (.cells #[.int .u8 0,.int .i64 0,.string ⟨#[]⟩,.int .i64 0,.pointer O] 128):=⟨_,rfl⟩
 have aL:XX (W.heap[w.heap.size]?=Zb (.cells #[.int .u8 0,.int .i64 0,.string ⟨#[]⟩,.int .i64 0,.pointer O] 128 (0,0))):=by show _=_;rw[hW];exact aE rfl
 have bB:XX (Ze w.heap.size w W):=by show Ze _ _ _;rw[hW];exact(Zo _ w).alloc (Zi _) _
 have fO:=ew h0;have cU:0<=((u[0]'h0).toNat:Za):=by omega
 have eK:((u[0]'h0).toNat:Za)<=255:=by have:=(u[0]'h0).toNat_lt;omega
 obtain⟨c,hc⟩:∃c,c=((u[0]'h0).toNat:Za):=⟨_,rfl⟩
 have HC:XX (((u[0]'h0).toNat:Za)=c):=hc.symm;have HG:XX (gb u 0=c):=by show _=_;rw[fO,hc]
 rw[<-hc]at cU eK;obtain⟨K,z,hK⟩:∃K z,aD u=(K,z):=⟨_,_,rfl⟩
 have HK:XX (aD u=(K,z)):=hK;rw[hK];simp only;have qX:XX (eD c=Zl):=by show _=_;rw[<-HG.o];exact hq
 have R1:K=⟨119,u.extract 0 (oo u),0,O⟩/\z=oo u:=by
  rw[aD,hq,Zj rfl]at hK;exact⟨(Zy hK).1.symm,(Zy hK).2.symm⟩
 have mr:XX (K=⟨119,u.extract 0 (oo u),0,O⟩/\z=oo u):=R1;clear fO hc hK R1 hq;have HW:XX (W=w.alloc (.cells #[.int .u8 0,.int .i64 0,.string ⟨#[]⟩,.int .i64 0,.pointer O] 128)):=hW;subst hW;go_enter func95,ntmps95;go_wp2_with fail;rw[HC.o];refine(xI _ _ cU eK).mono ?_;rintro e w1 ⟨rfl,rfl⟩;rw[qX.o];go_wp2_with fail;refine(xe _ _ cU eK).mono ?_;rintro e w1 ⟨rfl,rfl⟩;obtain⟨dg,ls⟩:∃dg,dg=aK c:=⟨_,rfl⟩
 rw[<-ls];clear ls;go_wp2_with fail;go_loopg [7] (u.size+1-1) (λg iv wr=>wr=w.alloc (.cells #[.int .u8 0,.int .i64 0,.string ⟨#[]⟩,.int .i64 0,.pointer O] 128)/\∃i f:Zd,1<=i/\i<=u.size/\g=u.size+1-i/\u.size<=i+f/\iv=.int .i64 i/\m9 u f i=oo u)
 case atStart=>exact⟨rfl,1,u.size,by omega,by omega,rfl,by omega,rfl,rfl⟩
 case round=>
  obtain⟨rfl,i,f,aU,dL,hg,p8,rfl,hF⟩:=hrel;have WF:XX (gk=u.size+1-i):=hg;have HF:XX (m9 u f i=oo u):=hF;clear hg hF;have b1:(0:Za)<=(i:Za):=by omega
  have b2:(i:Za)<=(u.size:Za):=by omega
  by_cases dy:i=u.size
  .have HE:XX (oo u=i):=by
    show _=_;rw[<-HF.o];cases f with
    |zero=>rfl
    |succ f=>rw[m9,nS (by omega)];rfl
   have ai:¬((i:Za)<(u.size:Za)):=by omega
   clear dy;go_wp2;have hl:=iw w.heap.size _ _ _ _ _ _ (aE (W:=w) (o:=.cells #[.int .u8 119,.int .i64 0,.string (u.extract 0 i),.int .i64 0,.pointer O] 128) rfl);refine Zm (v:=.tuple #[bD 119 0 (u.extract 0 i) 0 (.pointer O),.int .i64 i]) (by simp[results,results95,bD,Zq,hl]) rfl ?_;refine⟨_,by rw[mr.o.2,HE.o],(Zo _ w).alloc (Zi _) _,?_⟩;show du _ _ _ _ _;rw[mr.o.1,HE.o];exact du.plain
  .have fX:i<u.size:=by omega
   have EK:0<=((u[i]'fX).toNat:Za):=by omega
   have BH:((u[i]'fX).toNat:Za)<=255:=by have:=(u[i]'fX).toNat_lt;omega
   obtain⟨f',rfl⟩:∃f',f=f'+1:=⟨f-1,by omega⟩
   obtain⟨la,EY⟩:∃la,la=eD (gb u i):=⟨_,rfl⟩
   obtain⟨da,LH⟩:∃da,da=aK (gb u i):=⟨_,rfl⟩
   have WP:XX (eD ((u[i]'fX).toNat:Za)=la):=by show _=_;rw[<-ew fX];exact EY.symm
   have Wu:XX (aK ((u[i]'fX).toNat:Za)=da):=by show _=_;rw[<-ew fX];exact LH.symm
   have cF:XX (oo u=if la || da then m9 u f' (i+1)else i):=by show _=_;rw[<-HF.o,m9,EY,LH]
   clear dy EY LH HF;go_wp2_with fail;refine(xI _ _ EK BH).mono ?_;rintro e w1 ⟨rfl,rfl⟩;rw[WP.o];go_wp2_with fail;refine(xe _ _ EK BH).mono ?_;rintro e w1 ⟨rfl,rfl⟩;rw[Wu.o];by_cases iC:(la || da)=Zl
   .have ja:XX (m9 u f' (i+1)=oo u):=by show _=_;rw[cF.o,Zj iC]
    have sP:la=Zl\/(la=Zc/\da=Zl):=by cases la <;> cases da <;> simp_all
    clear iC;rcases sP with rfl|⟨rfl,rfl⟩
    all_goals
     go_wp2;go_roundg (u.size+1-(i+1))
     case measure=>rw[WF.o];omega
     case rel=>exact⟨rfl,i+1,f',by omega,by omega,rfl,by omega,by go_num,ja.o⟩
   .have sP:la=Zc/\da=Zc:=by cases la <;> cases da <;> simp_all
    have HE:XX (oo u=i):=by show _=_;rw[cF.o,Zg iC]
    clear iC;obtain⟨rfl,rfl⟩:=sP;go_wp2;have hl:=iw w.heap.size _ _ _ _ _ _ (aE (W:=w) (o:=.cells #[.int .u8 119,.int .i64 0,.string (u.extract 0 i),.int .i64 0,.pointer O] 128) rfl);refine Zm (v:=.tuple #[bD 119 0 (u.extract 0 i) 0 (.pointer O),.int .i64 i]) (by simp[results,results95,bD,Zq,hl]) rfl ?_;refine⟨_,by rw[mr.o.2,HE.o],(Zo _ w).alloc (Zi _) _,?_⟩;show du _ _ _ _ _;rw[mr.o.1,HE.o];exact du.plain
end Go.Proofs.YtdlgkgfeoiohiaaGreatDoor
