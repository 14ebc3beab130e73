/- Part 26. -/
import Derived.Test.YtdlgkgfeoiohiaaGreatDoorA21
import Derived.Test.YtdlgkgfeoiohiaaGreatDoorA24
import Derived.Test.YtdlgkgfeoiohiaaGreatDoorA25
open Bool renaming false -> Zb,true -> Zn
open Go renaming World -> Zi,Value -> Zl
open Go.ByteArray renaming toList_eq -> ZA
open Go.Calls renaming mono -> Ze
open Go.Exit renaming normal -> ZB
open Go.RowKit.Below renaming heap_alloc -> Zp,refl -> Zt
open Go.Value renaming ownBlock -> Zo,slice -> Zy
open Go.World renaming cell? -> Zu,cell?_of_block -> Zz,setCell -> ZD
open Go.World.ownsRow renaming alloc -> Zv
open List renaming getElem?_eq_getElem -> ZC
open Nat renaming le_refl -> Zq,lt_or_ge -> Zw
open Option renaming none -> O,some -> Za
open Or renaming inr -> Zg,inl -> Zk
open Sum renaming inr -> Zx
open _root_ renaming Nat -> Zc,List -> Zd,Int -> Zf,if_neg -> Zh,ByteArray -> Zj,if_pos -> Zm,beq_eq_false_iff_ne -> Zr
namespace Go.Proofs.YtdlgkgfeoiohiaaGreatDoor
set_option linter.unusedVariables false
set_option maxHeartbeats 16000000
set_option maxRecDepth 100000
open Go.RowKit J Go.Proofs.Tryz
variable {w w4 w2 w5 w3:Zi}{A V:Zc->Prop}{T:Zd (aj×Zc)}{inn:bc}{i g M b cap d n m m4 j:Zc}{x:Nd}{s:Zj}{p lsl v:Zl}{l:Zd Nd}{ps:Zd Zl}{o:Obj}
theorem adD(W:Zi)(B:Zc)(s:Zj)(hB:W.heap.size=B):
 Calls prog 147 #[.slice (Za ⟨B,0,O⟩) 6 6,.string s] (W.alloc (.cells #[.string ⟨#[42]⟩,.string ⟨#[97,116]⟩,.string ⟨#[115,108,105,99,101]⟩,.string ⟨#[116,104,105,110,103,115]⟩,.string ⟨#[102,108,97,116]⟩,.string ⟨#[102,105,108,116,101,114]⟩] 9))
  λe w'=>e=.returned (.bool (ea tB s))/\w'=W.alloc (.cells #[.string ⟨#[42]⟩,.string ⟨#[97,116]⟩,.string ⟨#[115,108,105,99,101]⟩,.string ⟨#[116,104,105,110,103,115]⟩,.string ⟨#[102,108,97,116]⟩,.string ⟨#[102,105,108,116,101,114]⟩] 9):=by
 subst hB;exact Lr tB s _ _ (wo W 9 (kv tB) (by decide)) (by decide)
def wn(T:Zd (aj×Zc))(inn:bc)(i:Zc):PR:=match inn with
 |none=>.error (bE T i)
 |some f=>match f.2 (i+1)with
  |.error e=>.error e
  |.ok x=>gY T kq (if ea tB x.1.op then dn fa [x.1]else x.1) x.2
theorem aJ.op(h:aJ w A x (.pointer (Za ⟨m,0,O⟩))):w.cell? ⟨m,0,O⟩=Za (.string x.op):=by
 cases x with
 |mk op a s names l n0 n1 n2 i0 i1 i2 v=>
  unfold aJ at h;obtain⟨m',nsl,lsl,ps,q,hp,hA,hb,_⟩:=h;injection hp with hp;injection hp with hp;injection hp with hp;subst hp;exact(kU hb).1
def Pk(V:Zc->Prop)(b g cap:Zc)(T:Zd (aj×Zc))(i d:Zc)(inn:bc)(M m4:Zc)(op:Zj)(w4:Zi):Prop:=
 w4.cell? ⟨m4,0,O⟩=Za (.string op) /\
 ((∃y j4,i<=j4/\y.op=op/\ax w4 V b g cap T j4 (d+1) (-1)/\aJ w4 (λm=>V m\/M<=m) y (.pointer (Za ⟨m4,0,O⟩))/\wn T inn i=gY T kq (if ea tB op then dn fa [y]else y) j4) \/
 (∃(bad j4:Zc),wn T inn i=.error bad/\ax w4 V b g cap T j4 (d+1) (bad:Zf)/\gx w4 M (.pointer (Za ⟨m4,0,O⟩))))
def aaN(V:Zc->Prop)(b g cap:Zc)(T:Zd (aj×Zc))(i d:Zc)(inn:bc)(M m4:Zc)(op:Zj)(w4:Zi):Prop:=
 w4.cell? ⟨m4,0,O⟩=Za (.string op) /\
 ((∃y j4,i<=j4/\ax w4 V b g cap T j4 d (-1)/\aJ w4 (λm=>V m\/M<=m) y (.pointer (Za ⟨m4,0,O⟩))/\wn T inn i=.ok (if ea tB op then dn fa [y]else y,j4)) \/
 (∃(bad j4:Zc),wn T inn i=.error bad/\ax w4 V b g cap T j4 d (bad:Zf)/\gx w4 M (.pointer (Za ⟨m4,0,O⟩))))
def We(V:Zc->Prop)(b g cap:Zc)(T:Zd (aj×Zc))(i d:Zc)(w2:Zi):bc->Prop
 |none=>ax w2 V b g cap T i (d+1) (bE T i:Zc)
 |some _=>ax w2 V b g cap T (i+1) (d+1) (-1)
theorem aih(hinn:qw V b g cap T d inn)(hV:∀m,V m->m<w2.heap.size)
 (cP:We V b g cap T i d w2 inn):
 Calls prog 59 #[.pointer (Za ⟨b,0,O⟩),.int .i64 0] w2 λe w4=>∃m4 op,e=.returned (.pointer (Za ⟨m4,0,O⟩))/\ab b w2 w4/\XX (Pk V b g cap T i d inn w2.heap.size m4 op w4):=by
 cases inn with
 |none=>
  have hd:d=12:=hinn;refine(yX V b g cap T 0 (by omega) w2 i (d+1) (bE T i:Zc) cP (by omega) (by omega)).mono ?_;rintro e w4 ⟨p,rfl,ar,bg,bI⟩;obtain⟨m4,op,a,s,nsl,lsl,n0,n1,n2,i0,i1,i2,v,rfl,hm,hb⟩:=bI.o;exact⟨m4,op,rfl,ar,(kU hb).1,Zg ⟨bE T i,i,rfl,bg,bI.o⟩⟩
 |some f=>
  refine(hinn.2.2 w2 _ cP hV).mono ?_;rintro e w4 ⟨p,rfl,ar,jg⟩;rcases jg with⟨y,j4,hy,j5,bg,bI⟩|⟨bad4,j4,hy,bg,bI⟩
  .obtain⟨m4,e4,_⟩:=bI.o.ptr;subst e4;refine⟨m4,y.op,rfl,ar,bI.o.op,Zk ⟨y,j4,by omega,rfl,bg,bI.o,?_⟩⟩;show wn T (Za f) i=_;rw[wn,hy.o]
  .obtain⟨m4,op,a,s,nsl,lsl,n0,n1,n2,i0,i1,i2,v,rfl,hm,hb⟩:=bI.o;refine⟨m4,op,rfl,ar,(kU hb).1,Zg ⟨bad4,j4,?_,bg,bI.o⟩⟩;show wn T (Za f) i=_;rw[wn,hy.o]
theorem aig{op:Zj}(h:Pk V b g cap T i d inn M m4 op w4)(hbM:b<M)(hVb:∀m,V m->m≠b):
 Calls prog 222 #[.pointer (Za ⟨b,0,O⟩),.string ⟨#[41]⟩] w4 λe w5=>e=.returned (.tuple #[])/\ab b w4 w5/\XX (aaN V b g cap T i d inn M m4 op w5):=by
 obtain⟨hc,cP⟩:=h;rcases cP with⟨y,j4,ej,fF,hp,hn,hr⟩|⟨bad,j4,hr,hp,hn⟩
 .have vI:∀w5,ab b w4 w5->aJ w5 (λm=>V m\/M<=m) y (.pointer (Za ⟨m4,0,O⟩)):=λw5 hb=>aJ.keep (uz hb (λm hm e=>by rcases hm with h|h;exact hVb m h e;omega)) _ _ hn
  refine(uc hp ⟨#[41]⟩ (B:=ag T j4 kq) (by simp[kq])).mono ?_;rintro e w5 ⟨rfl,bP,dB⟩;have fc:=vI w5 bP;refine⟨rfl,bP,by rw[<-fF];exact fc.op,?_⟩;cases eK:ag T j4 kq with
  |true=>
   rw[eK]at dB;exact Zk ⟨y,j4+1,by omega,dB,fc,by rw[hr,gY,eK];rfl⟩
  |false=>
   rw[eK]at dB;refine Zg ⟨bE T j4,j4,by rw[hr,gY,eK];rfl,dB,?_⟩;obtain⟨m,e,hA⟩:=fc.ptr;cases y with
   |mk op' a s names l n0 n1 n2 i0 i1 i2 v=>
    unfold aJ at fc;obtain⟨m',nsl,lsl,ps,q,hp',Eg,sL,_⟩:=fc;rcases Eg with Eg|Eg
    .obtain⟨o,ho,dM⟩:=dB.vt m' Eg;rw[sL]at ho;injection ho with ho;exact absurd ho.symm (dM _ _)
    .exact⟨m',_,_,_,_,_,_,_,_,_,_,_,_,hp',Eg,sL⟩
 .refine(uc hp ⟨#[41]⟩ (B:=Zb) (by rw[decide_eq_false (by omega)];rfl)).mono ?_;rintro e w5 ⟨rfl,bP,dB⟩;have fc:=hn.but bP hbM (Zq _);have vK:¬((bad:Zf)<0):=by omega
  simp only[Bool.false_eq_true,if_false,vK]at dB;refine⟨rfl,bP,?_,Zg ⟨bad,j4,hr,dB,fc⟩⟩;obtain⟨m,op',a,s,nsl,lsl,n0,n1,n2,i0,i1,i2,v,zI,hm,hb⟩:=hn;injection zI with zI;injection zI with zI;injection zI with zI;subst zI;rw[Zz (bP.block m4 (al hb) (by intro e;injection e with e;omega))];exact hc
theorem acN(h1:(bp T i).kind≠114)(h2:(bp T i).kind≠108)(hs:ag T i mX=Zn):fx T inn i=wn T inn i:=by
 unfold fx;rw[Zh h1,Zh h2,Zm hs];rfl
theorem acP(h1:(bp T i).kind≠114)(h2:(bp T i).kind≠108)(h3:ag T i mX=Zb)(hs:ag T i iu=Zn):fx T inn i=if DV T i then jy T inn i else ko T inn i:=by
 unfold fx;rw[Zh h1,Zh h2,h3,Zh (by simp),Zm hs]
theorem acM(h1:(bp T i).kind≠114)(h2:(bp T i).kind≠108)(h3:ag T i mX=Zb)(h4:ag T i iu=Zb):fx T inn i=if ag T i lA then .ok (nH lA,i+1)else fR T inn i:=by
 unfold fx;rw[Zh h1,Zh h2,h3,Zh (by simp),h4,Zh (by simp)]
theorem abN{o:Zc}(h:w.cell? ⟨g,o,O⟩=Za v):g<w.heap.size:=by
 rcases Zw g w.heap.size with hl|hg
 .exact hl
 .simp[Zu,Array.getElem?_eq_none hg]at h
theorem adC{W:Zi}(h:W.cell? ⟨m,0,O⟩=Za (.string s)):(W.alloc (.cells #[.string ⟨#[42]⟩,.string ⟨#[97,116]⟩,.string ⟨#[115,108,105,99,101]⟩,.string ⟨#[116,104,105,110,103,115]⟩,.string ⟨#[102,108,97,116]⟩,.string ⟨#[102,105,108,116,101,114]⟩] 9)).cell? ⟨m,0,O⟩=Za (.string s):=by
 rw[Zz (Zp _ _ _ (abN h))];exact h
theorem abR(V:Zc->Prop)(b g cap:Zc)(T:Zd (aj×Zc))(d:Zc)(inn:bc)(hinn:qw V b g cap T d inn):lS 190 #[] V b g cap T d (fx T inn):=by
 have JZ:=aa (Qs V b g cap T d inn hinn (λw i h hV hs=>Qr V b g cap T d inn hinn w i h hV hs));intro w i h hV;have aR:XX (b<w.heap.size):=al h.blk;have aV:XX (∀m,V m->m≠b):=h.v;have HV:=aa hV;have az:=h.len;have jL:=h.il;obtain⟨g0,g1,g2,g3,gf⟩:=gE h.blk;obtain⟨x,hx⟩:∃x,T[i]?=Za x:=⟨T[i]'jL,ZC jL⟩
 obtain⟨t,at'⟩:=x;obtain⟨q,th,c0,c1,c2,c3,c4⟩:=h.row.cells hx;have HTV:=aa th;have aL:=aa (Ao hx);have tJ:XX (i+1=T.length->t.kind=101\/t.kind=120):=λhe=>h.last i _ hx he
 have nN:=aa h;have lX:=aa hinn;have sY:ax (w.alloc (.cells #[.int .u8 0,.int .i64 0,.string ⟨#[]⟩,.int .i64 0,.pointer O] 128)).drew V b g cap T i d (-1):=h.same (((Zt _ w).alloc (Zq _) _)).drew;obtain⟨z0,z1,z2,z3,zf⟩:=gE sY.blk;obtain⟨q',_,y0,y1,y2,y3,y4⟩:=sY.row.cells hx;have E7:q'=q:=by
  have hd:(w.alloc (.cells #[.int .u8 0,.int .i64 0,.string ⟨#[]⟩,.int .i64 0,.pointer O] 128)).drew.cell? ⟨g,i*5+4,O⟩=w.cell? ⟨g,i*5+4,O⟩:=by
   have hg:=h.rowlt;show(w.alloc (.cells #[.int .u8 0,.int .i64 0,.string ⟨#[]⟩,.int .i64 0,.pointer O] 128)).cell? _=_;exact Zz (Zp _ _ _ hg)
  rw[hd,c4]at y4;injection y4 with y4;injection y4 with y4;exact y4.symm
 subst E7;clear h hV hinn hx sY th;go_enter func190,ntmps190;go_wp2_with fail
 go_region
 obtain⟨w1,dE⟩:∃w1,w1=(w.alloc (.cells #[.int .u8 t.kind,.int .i64 at',.string t.txt,.int .i64 t.num,.pointer q'] 128)).drew:=⟨_,rfl⟩
 change Exit.then _ _ ZB _ (w.alloc (.cells #[.int .u8 t.kind,.int .i64 at',.string t.txt,.int .i64 t.num,.pointer q'] 128)).drew
 rw[<-dE];have ae:Below w.heap.size w w1:=by rw[dE];exact(((Zt _ w).alloc (Zq _) _)).drew
 have aC:ax w1 V b g cap T i d (-1):=nN.o.same ae;have gq:w1.heap[w.heap.size]?=Za (.cells #[.int .u8 t.kind,.int .i64 at',.string t.txt,.int .i64 t.num,.pointer q'] 128 (0,0)):=by rw[dE];exact aE rfl
 have t0:w1.cell? ⟨w.heap.size,0,O⟩=Za (.int .u8 t.kind):=by simp[Zu,gq]
 have t2:w1.cell? ⟨w.heap.size,2,O⟩=Za (.string t.txt):=by simp[Zu,gq]
 have t4:w1.cell? ⟨w.heap.size,4,O⟩=Za (.pointer q'):=by simp[Zu,gq]
 have aT:XX (ab b w w1):=(ab.refl b w).of_below ae;have aaB:XX (OV w1 (λm=>V m\/w.heap.size<=m) t.val q'):=OV.keep (TV.ov HTV.o) (λm o hm ho=>⟨ae.block m (al ho),Zk hm⟩);have Ms:w.heap.size+1=w1.heap.size:=by rw[dE];simp
 obtain⟨B1,dX⟩:∃B,B=ag T i mX:=⟨_,rfl⟩
 obtain⟨B2,bZ⟩:∃B,B=ag T i iu:=⟨_,rfl⟩
 have zh:=l6 aC 0 (by omega) mX;have zi:=l6 aC 0 (by omega) iu;rw[show(decide ((-1:Zf)<0)&&ag T (i+0) mX)=B1 by rw[dX];simp]at zh;rw[show(decide ((-1:Zf)<0)&&ag T (i+0) iu)=B2 by rw[bZ];simp]at zi;have eM:=aa zh;have fj:=aa zi;have gU:XX (ag T i mX=B1):=dX.symm;have dV:XX (ag T i iu=B2):=bZ.symm;have aX:=aa aC;obtain⟨k0,k1,k2,k3,kf⟩:=gE aC.blk;clear g0 g1 g2 g3 gf c0 c1 c2 c3 c4 z0 z1 z2 z3 zf y0 y1 y2 y3 y4 dE ae aC gq dX bZ zh zi k2 k3;go_wp2_with fail;refine Ze eM.o ?_;rintro e w1' ⟨rfl,mS⟩;subst mS;go_wp2_with fail;refine Ze fj.o ?_;rintro e w1' ⟨rfl,mS⟩;subst mS;by_cases hr:t.kind=114
 .have kl:i+1<T.length:=by
   rcases Zw (i+1) T.length with h|h
   .exact h
   .have:=tJ.o (by omega);omega
  have e114:(t.kind==114)=Zn:=beq_iff_eq.2 hr;have HR:XX (fx T inn i=.ok (tq rX t.txt,i+1)):=by show _=_;unfold fx;rw[aL.o.1,Zm hr]
  clear k0 t4;go_wp2;go_ret;have kL:ab b w1' (w1'.setCell ⟨b,1,O⟩ (.int .i64 ((i:Zf)+1))):=(ab.refl b w1').setCell _ _;refine⟨_,rfl,(aT.o.trans kL).alloc _,Zk ⟨.mk rX 0 t.txt [] [] 0 0 0 Zb Zb Zb O,i+1,HR,by omega,(aX.o.to kL (uf aX.o.blk (i+1)) kl aX.o.dl (by omega)).alloc _,?_⟩⟩;show aJ _ _ _ _;exact Cs (n:=w1'.heap.size) (q:=O) (by simp[ZD]) (Zg (by omega)) rfl
 .have e114:(t.kind==114)=Zb:=Zr.2 hr;by_cases hl:t.kind=108
  .have kl:i+1<T.length:=by
    rcases Zw (i+1) T.length with h|h
    .exact h
    .have:=tJ.o (by omega);omega
   have e108:(t.kind==108)=Zn:=beq_iff_eq.2 hl;have HR:XX (fx T inn i=.ok (.mk kr 0 ⟨#[]⟩ [] [] 0 0 0 Zb Zb Zb t.val,i+1)):=by show _=_;unfold fx;rw[aL.o.1,Zh hr,Zm hl]
   clear k0 t2;go_wp2;go_ret;have kL:ab b w1' (w1'.setCell ⟨b,1,O⟩ (.int .i64 ((i:Zf)+1))):=(ab.refl b w1').setCell _ _;refine⟨_,rfl,(aT.o.trans kL).alloc _,Zk ⟨.mk kr 0 ⟨#[]⟩ [] [] 0 0 0 Zb Zb Zb t.val,i+1,HR,by omega,(aX.o.to kL (uf aX.o.blk (i+1)) kl aX.o.dl (by omega)).alloc _,?_⟩⟩;show aJ _ _ _ _;exact Cs (n:=w1'.heap.size) (q:=q') (by simp[ZD]) (Zg (by omega)) (OV.keep aaB.o (λm o hm ho=>⟨kL.block m (al ho) (by intro e;injection e with e;subst e;rcases hm with h|h;exact aV.o _ h rfl;have:=aR.o;omega),hm⟩))
  .have e108:(t.kind==108)=Zb:=Zr.2 hl;have HK:XX ((bp T i).kind≠114/\(bp T i).kind≠108):=by rw[aL.o.1];exact⟨hr,hl⟩
   clear t2 t4;cases B1
   .cases B2
    .have wR:=kH aX.o ⟨#[64]⟩ (B:=ag T i lA) (by simp[lA]);obtain⟨B3,jW⟩:∃B,ag T i lA=B:=⟨_,rfl⟩
     rw[jW]at wR;have HT:=aa wR;have HR:=aa (acM (inn:=inn) HK.o.1 HK.o.2 gU.o dV.o);have bo:=aa jW;clear wR jW k0 k1 kf;go_wp2_with fail;refine Ze HT.o ?_;rintro e w2 ⟨rfl,ah,bb⟩;have aY:XX (ab b w w2):=aT.o.trans ah;have lO:w1'.heap.size<=w2.heap.size:=ah.size;have gd:=aa bb;clear ah bb t0;cases B3
     .have HC:=aa (JZ.o w2 i gd.o (λm hm=>by have:=HV.o m hm;omega));have iK:XX (fx T inn i=fR T inn i):=by show _=_;rw[HR.o,bo.o];rfl
      go_wp2_with fail;refine Ze HC.o ?_;intro e w3 h3;have HE:XX (lD V b g cap T i d w (fx T inn i) e w3):=by show lD _ _ _ _ _ _ _ _ _ _ _;rw[iK.o];exact lD.from (w1:=w2) h3 aY.o (by omega)
      obtain⟨p,hp,iR⟩:=HE.o;subst hp;have uV:=aa iR;clear h3 iR HE;go_wp2;go_ret;exact⟨_,rfl,uV.o⟩
     .have iK:XX (fx T inn i=.ok (nH lA,i+1)):=by show _=_;rw[HR.o,bo.o];rfl
      go_wp2;go_ret;refine⟨_,rfl,aY.o.alloc _,Zk ⟨.mk lA 0 ⟨#[]⟩ [] [] 0 0 0 Zb Zb Zb O,i+1,iK,by omega,gd.o.alloc _,?_⟩⟩;show aJ _ _ _ _;exact Cs (n:=w2.heap.size) (q:=O) rfl (Zg (by omega)) rfl
    .have kl:i+1<T.length:=tz aX.o dV.o;obtain⟨x1,gX⟩:∃x,T[i+1]?=Za x:=⟨T[i+1]'kl,ZC kl⟩
     obtain⟨u,au⟩:=x1;obtain⟨qu,_,u0,u1,u2,u3,u4⟩:=aX.o.row.cells gX;have HUK:=aa (Ao gX);obtain⟨C1,K4⟩:∃B,ag T (i+1) eV=B:=⟨_,rfl⟩
     obtain⟨C2,K5⟩:∃B,ag T (i+2) eU=B:=⟨_,rfl⟩
     obtain⟨C3,K6⟩:∃B,ag T (i+1) eU=B:=⟨_,rfl⟩
     obtain⟨C4,K7⟩:∃B,ag T (i+1) kW=B:=⟨_,rfl⟩
     obtain⟨C5,K8⟩:∃B,ag T (i+1) fo=B:=⟨_,rfl⟩
     obtain⟨C6,QR⟩:∃B,(u.kind==110)=B:=⟨_,rfl⟩
     have F6:=l6 aX.o 1 (by omega) eV;have wH:=l6 aX.o 2 (by omega) eU;have F7:=l6 aX.o 1 (by omega) eU;have F8:=l6 aX.o 1 (by omega) kW;have F9:=l6 aX.o 1 (by omega) fo;rw[show(decide ((-1:Zf)<0))=Zn from rfl,Bool.true_and]at F6 wH F7 F8 F9;rw[K4]at F6;rw[K5]at wH;rw[K6]at F7;rw[K7]at F8;rw[K8]at F9;have qT:=aa F6;have JH:=aa wH;have Ww:=aa F7;have Wx:=aa F8;have Wy:=aa F9;have sc:XX (DV T i=(C1&&C2 || C3 || C4 || C5 || C6)):=by
      show _=_;unfold DV;rw[K4,K5,K6,K7,K8,HUK.o.1,<-QR]
      congr 1
     have kk:((i:Zf)+1)<(T.length:Zf):=by omega
     clear F6 wH F7 F8 F9 K4 K5 K6 K7 K8 gX u1 u2 u3 u4;go_wp2_with fail;refine Ze qT.o ?_;rintro e wa ⟨rfl,rfl⟩;go_wp2_with fail;refine Ze JH.o ?_;rintro e wb ⟨rfl,rfl⟩;go_wp2_with fail;refine Ze Ww.o ?_;rintro e wc ⟨rfl,rfl⟩;go_wp2_with fail;refine Ze Wx.o ?_;rintro e wd ⟨rfl,rfl⟩;go_wp2_with fail;refine Ze Wy.o ?_;rintro e we ⟨rfl,rfl⟩;go_wp2_with fail
     go_region
     obtain⟨W,hW⟩:∃W,W=we.drew:=⟨_,rfl⟩
     change Exit.then _ _ ZB _ we.drew
     rw[<-hW];have lr:w.heap.size+1=W.heap.size:=by rw[hW];exact Ms
     have sA:XX (ax W V b g cap T i d (-1)):=by show ax _ _ _ _ _ _ _ _ _;rw[hW];exact aX.o.drew
     have bB:XX (ab b w W):=by show ab _ _ _;rw[hW];exact aT.o.drew
     have lU:=aa (Qh V b g cap T d inn lX.o W i sA.o (λm hm=>by have:=HV.o m hm;omega) dV.o);have WR:=aa (Ql V b g cap T d inn lX.o W i sA.o (λm hm=>by have:=HV.o m hm;omega) dV.o);have HR:=aa (acP (inn:=inn) HK.o.1 HK.o.2 gU.o dV.o);obtain⟨G,hG⟩:∃G,G=(C1&&C2 || C3 || C4 || C5 || C6):=⟨_,rfl⟩
     have HG:XX (DV T i=G):=by rw[hG];exact sc.o
     clear hW k0 k1 kf t0 u0 QR kk
     go_upto_region 26 with fail
     go_cut[137] (λc wx=>c=.bool G/\wx=W)
     case first=>
      clear HG;cases C1
      .cases C3
       .cases C4
        .cases C5
         .cases C6
          .go_wp2_with fail;go_meet
           exact⟨by rw[hG];simp,rfl⟩
          .go_wp2_with fail;go_meet
           exact⟨by rw[hG];simp,rfl⟩
         .go_wp2_with fail;go_meet
          exact⟨by rw[hG];simp,rfl⟩
        .go_wp2_with fail;go_meet
         exact⟨by rw[hG];simp,rfl⟩
       .go_wp2_with fail;go_meet
        exact⟨by rw[hG];simp,rfl⟩
      .cases C2
       .cases C3
        .cases C4
         .cases C5
          .cases C6
           .go_wp2_with fail;go_meet
            exact⟨by rw[hG];simp,rfl⟩
           .go_wp2_with fail;go_meet
            exact⟨by rw[hG];simp,rfl⟩
          .go_wp2_with fail;go_meet
           exact⟨by rw[hG];simp,rfl⟩
         .go_wp2_with fail;go_meet
          exact⟨by rw[hG];simp,rfl⟩
        .go_wp2_with fail;go_meet
         exact⟨by rw[hG];simp,rfl⟩
       .go_wp2_with fail;go_meet
        exact⟨by rw[hG];simp,rfl⟩
     case rest=>
      obtain⟨rfl,rfl⟩:=hcut;clear hG;cases G
      .have iK:XX (fx T inn i=ko T inn i):=by show _=_;rw[HR.o,HG.o];rfl
       go_wp2_with fail;refine Ze WR.o ?_;intro e w3 h3;have HE:XX (lD V b g cap T i d w (fx T inn i) e w3):=by show lD _ _ _ _ _ _ _ _ _ _ _;rw[iK.o];exact lD.from (w1:=wc) h3 bB.o (by omega)
       obtain⟨p,hp,iR⟩:=HE.o;subst hp;have uV:=aa iR;clear h3 iR HE;go_wp2;go_ret;exact⟨_,rfl,uV.o⟩
      .have iK:XX (fx T inn i=jy T inn i):=by show _=_;rw[HR.o,HG.o];rfl
       go_wp2_with fail;refine Ze lU.o ?_;intro e w3 h3;have HE:XX (lD V b g cap T i d w (fx T inn i) e w3):=by show lD _ _ _ _ _ _ _ _ _ _ _;rw[iK.o];exact lD.from (w1:=wc) h3 bB.o (by omega)
       obtain⟨p,hp,iR⟩:=HE.o;subst hp;have uV:=aa iR;clear h3 iR HE;go_wp2;go_ret;exact⟨_,rfl,uV.o⟩
   .have kl:i+1<T.length:=tz aX.o gU.o;have HD:=aa (Ea lX.o aX.o kl);have HR:=aa (acN (inn:=inn) HK.o.1 HK.o.2 gU.o);clear k0 k1 kf;go_wp2_with fail;refine Ze HD.o ?_;rintro e w2 ⟨rfl,ah,cP⟩;have lO:w1'.heap.size<=w2.heap.size:=ah.size;have dT:=aa (aih (i:=i) (w2:=w2) lX.o (λm hm=>by have:=HV.o m hm;omega) (by cases inn <;> exact cP.o));have aY:XX (ab b w w2):=aT.o.trans ah;clear ah cP t0;go_wp2_with fail;refine Ze dT.o ?_;rintro e w4 ⟨m4,op,rfl,aB,eo⟩;have sh:=aa (aig eo.o (by have:=aR.o;omega) aV.o);have bq:XX (ab b w w4):=aY.o.trans aB;have oc:w2.heap.size<=w4.heap.size:=aB.size;clear aB eo;go_wp2_with fail;refine Ze sh.o ?_;rintro e w5 ⟨rfl,bP,dy⟩;have gM:XX (ab b w w5):=bq.o.trans bP;have Ck:w4.heap.size<=w5.heap.size:=bP.size;have AC:=aa dy.o;have cop:=adC dy.o.1;have JL:=adD w5 w5.heap.size op rfl;obtain⟨G,hG⟩:∃G,ea tB op=G:=⟨_,rfl⟩
    rw[hG]at JL;have WH:=aa JL;have HG:=aa hG;clear bP dy JL hG;go_wp2_with fail;refine Ze WH.o ?_;rintro e w6 ⟨rfl,fG⟩;have aat:XX (w6.heap.size=w5.heap.size+1):=by show _=_;rw[fG];simp
    have Bz:Below w5.heap.size w5 w6:=by rw[fG];exact(Zt _ w5).alloc (Zq _) _
    have ya:XX (ab b w w6):=gM.o.of_below (Below.mono Bz (by have:=gM.o.size;omega));have yu:XX ((∃y j4,i<=j4/\ax w6 V b g cap T j4 d (-1)/\aJ w6 (λm=>V m\/w.heap.size<=m) y (.pointer (Za ⟨m4,0,O⟩))/\fx T inn i=.ok (if G then dn fa [y]else y,j4))\/(∃(bad j4:Zc),fx T inn i=.error bad/\ax w6 V b g cap T j4 d (bad:Zf)/\gx w6 w.heap.size (.pointer (Za ⟨m4,0,O⟩)))):=by
     rw[HR.o,<-HG.o];rcases AC.o.2 with⟨y,j4,h1,h2,h3,h4⟩|⟨bad,j4,h1,h2,h3⟩
     .exact Zk ⟨y,j4,h1,h2.same Bz,aJ.keep (λm o hm ho=>⟨Bz.block m (al ho),hm.imp_right λh=>by omega⟩) _ _ h3,h4⟩
     .exact Zg ⟨bad,j4,h1,h2.same Bz,h3.keep (λm o hm ho=>⟨Bz.block m (al ho),by omega⟩)⟩
    clear fG Bz cop;cases G
    .go_wp2;go_ret;refine⟨_,rfl,ya.o,?_⟩;rcases yu.o with⟨y,j4,h1,h2,h3,h4⟩|⟨bad,j4,h1,h2,h3⟩
     .exact Zk ⟨y,j4,h4,h1,h2,h3⟩
     .first|exact Zg ⟨bad,j4,h1,h2,h3⟩|exact Zg ⟨bad,h1,⟨j4,h2⟩,h3⟩
    .go_wp2;go_ret;have jp:=aat.o;refine⟨_,rfl,(ya.o.alloc _).alloc _,?_⟩;rcases yu.o with⟨y,j4,h1,h2,h3,h4⟩|⟨bad,j4,h1,h2,h3⟩
     .refine Zk ⟨dn fa [y],j4,h4,h1,(h2.alloc _).alloc _,?_⟩;show aJ _ _ _ _;exact IC (n:=w6.heap.size) (ps:=[.pointer (Za ⟨m4,0,O⟩)]) rfl (Ft h3) (by simp) (λk hk=>Zg (by omega))
     .have hN:gx ((w6.alloc (.cells #[.pointer (Za ⟨m4,0,O⟩)] 68)).alloc (bH fa 0 ⟨#[]⟩ (.slice O 0 0) (.slice (Za ⟨w6.heap.size,0,O⟩) 1 1) 0 0 0 Zb Zb Zb (.pointer O))) w.heap.size (.pointer (Za ⟨w6.heap.size+1,0,O⟩)):=⟨w6.heap.size+1,_,0,_,_,_,0,0,0,Zb,Zb,Zb,_,rfl,by omega,aE (by simp)⟩
      first|exact Zg ⟨bad,j4,h1,(h2.alloc _).alloc _,hN⟩|exact Zg ⟨bad,h1,⟨j4,(h2.alloc _).alloc _⟩,hN⟩
structure rY(V:Zc->Prop)(M:Zc)(lsl:Zl)(l:Zd Nd)(ps:Zd Zl)(wr:Zi):Prop where
 row:ao wr 68 lsl ps
 own:∀g,lsl.ownBlock=Za g->M<=g
 refs:cr wr (λm=>(V m\/M<=m)/\lsl.ownBlock≠Za m) l ps
theorem rY.one{w1:Zi}(hx:aJ w1 (λm=>V m\/M<=m) x p)(hM:M<=w1.heap.size):rY V M (.slice (Za ⟨w1.heap.size,0,O⟩) 1 1) [x] [p] (w1.alloc (.cells #[p] 68)):=by
 refine⟨wo w1 68 [p] (by unfold maxLen;simp),λg hg=>?_,Ft (aJ.keep (λm o hm ho=>⟨Zp _ _ _ (al ho),hm,λe=>?_⟩) _ _ hx)⟩
 .simp[Zo]at hg;omega
 .have e:w1.heap.size=m:=by simpa[Zo]using e
  have:=al ho;omega
theorem rY.but{wr w':Zi}(h:rY V M lsl l ps wr)(hb:ab b wr w')(hbM:b<M)(hVb:∀m,V m->m≠b):rY V M lsl l ps w':=
 ⟨ao.same h.row (λk hk=>hb.block k (ao.lt h.row hk) (by intro e;injection e with e;have:=h.own k hk;omega)),h.own,
  cr.keep (λk o hk ho=>⟨hb.block k (al ho) (by intro e;injection e with e;rcases hk.1 with h|h;exact hVb k h e;omega),hk⟩) _ _ h.refs⟩
theorem rY.app{M4:Zc}{y:Nd}(h:rY V M lsl l ps w4)(hy:aJ w4 (λm=>V m\/M4<=m) y p)
 (h2:∀g,lsl.ownBlock=Za g->g<M4) (h3:M<=M4) (hV:∀m,V m->m<M) (h5:M4<=w4.heap.size) (an:(w4.alloc o).grownBy w5 lsl.ownBlock) (aO:ao w5 68 (.slice (Za ⟨g,0,O⟩) n cap) (ps++[p]))
 (hg:lsl.ownBlock=Za g\/g=w4.heap.size+1):rY V M (.slice (Za ⟨g,0,O⟩) n cap) (l++[y]) (ps++[p]) w5:=by
 have iB:M<=g:=by
  rcases hg with hg|hg
  .exact h.own g hg
  .omega
 have key:∀m o',((V m\/M<=m)/\lsl.ownBlock≠Za m)->w4.heap[m]?=Za o'->w5.heap[m]?=w4.heap[m]?/\((V m\/M<=m)/\(Zy (Za ⟨g,0,O⟩) n cap).ownBlock≠Za m):=by
  intro m o' ⟨a1,a3⟩ ho;have hm:=al ho;refine⟨?_,a1,?_⟩
  .rw[an.block m (by simp;omega) (λe=>a3 e.symm)];exact Zp _ _ _ hm
  .intro e;have e:g=m:=by simpa[Zo]using e
   subst e;rcases hg with hg|hg
   .exact a3 hg
   .omega
 refine⟨aO,?_,cr.snoc (aJ.keep ?_ _ _ hy) (cr.keep key _ _ h.refs)⟩
 .intro k hk;have e:g=k:=by simpa[Zo]using hk
  subst e;exact iB
 .intro m o' hm ho;refine key m o' ⟨hm.imp_right λh=>by omega,?_⟩ ho;intro e;have h6:=h2 m e;have h7:=h.own m e;rcases hm with h|h
  .have:=hV m h;omega
  .omega
def Ju(V:Zc->Prop)(b g cap:Zc)(T:Zd (aj×Zc))(i d:Zc)(w:Zi)(inn:bc)(p0:Zl)(x0:Nd)(resF:Except Zc (Zd Nd×Zc))(gh:Zc)(lv:Zl)(wr:Zi):Prop:=
 ab b w wr/\∃gl cl ps',lv=.slice (Za ⟨gl,0,O⟩) (ps'.length+1) cl/\w.heap.size<=gl/\ao wr 68 lv (p0::ps')/\ps'.length+gh<=T.length /\
  (
   (∃l' j,d7 T inn gh (x0::l') j=resF/\T.length<=j+gh/\i<=j/\ax wr V b g cap T j d (-1)/\rY V w.heap.size lv (x0::l') (p0::ps') wr) \/
   (∃(bad j:Zc),resF=.error bad/\ax wr V b g cap T j d (bad:Zf)/\(ps'=[]->gx wr w.heap.size p0)))
theorem Ku{p0:Zl}{x0:Nd}{resF:Except Zc (Zd Nd×Zc)}{gk gl cl j' g5 cap5:Zc}{ps':Zd Zl}{l':Zd Nd}{r:PR}
 (hBL:b<w.heap.size) (hGL:g<w.heap.size) (hV:∀m,V m->m<w.heap.size) (hVB:∀m,V m->m≠b) (aM:ab b w w4) (qa:rY V w.heap.size (.slice (Za ⟨gl,0,O⟩) (ps'.length+1) cl) (x0::l') (p0::ps') w4) (BL:gl<w2.heap.size) (lO:w.heap.size<=w2.heap.size) (oc:w2.heap.size<=w4.heap.size)
 (cP:F0 V b g cap T j' d w2 r (.pointer (Za ⟨m4,0,O⟩)) w4) (jh:ao w5 68 (.slice (Za ⟨g5,0,O⟩) ((p0::ps').length+1) cap5) ((p0::ps')++[.pointer (Za ⟨m4,0,O⟩)])) (bK:(w4.alloc o).grownBy w5 (Zy (Za ⟨gl,0,O⟩) (ps'.length+1) cl).ownBlock) (ij:(Zy (Za ⟨gl,0,O⟩) (ps'.length+1) cl).ownBlock=Za g5\/g5=w4.heap.size+1)
 (mL:1<=gk) (em:ps'.length+gk<=T.length) (hjk:T.length<=j+gk) (ej:i<=j) (hF:d7 T inn gk (x0::l') j=resF)
 (be:∀y j4,r=.ok (y,j4)->j<j4/\d7 T inn gk (x0::l') j=d7 T inn (gk-1) ((x0::l')++[y]) j4) (herr:∀bad,r=.error bad->d7 T inn gk (x0::l') j=.error bad):
 Ju V b g cap T i d w inn p0 x0 resF (gk-1) (.slice (Za ⟨g5,0,O⟩) ((p0::ps').length+1) cap5) w5:=by
 have al5:=qa.own gl rfl;have jm:ab b w w5:=D0 aM bK (λk hk=>qa.own k hk);have aef:w.heap.size<=g5:=by
  rcases ij with h|h
  .exact qa.own g5 h
  .omega
 have xC:∀m,m<w.heap.size->w5.heap[m]?=w4.heap[m]?:=by
  intro m hm;rw[bK.block m (by simp;omega) (λe=>by have:=qa.own m e.symm;omega)];exact Zp _ _ _ (by omega)
 have rF:∀j4 bad4,ax w4 V b g cap T j4 d bad4->ax w5 V b g cap T j4 d bad4:=λj4 bad4 h=>h.keep (λm o hm ho=>xC m (by rcases hm with rfl|rfl|hm;exact hBL;exact hGL;exact hV m hm))
 refine⟨jm,g5,cap5,ps'++[Zl.pointer (Za ⟨m4,0,O⟩)],by simp,aef,jh,by simp;omega,?_⟩;rcases cP with⟨y,j4,hy,hj4,bg,bI⟩|⟨bad,j4,hy,bg,bI⟩
 .obtain⟨h1,h2⟩:=be y j4 hy.o;refine Zk ⟨l'++[y],j4,by rw[<-hF,h2];rfl,by omega,by omega,rF _ _ bg,?_⟩;exact qa.app bI.o (λk hk=>by have e:gl=k:=(by simpa[Zo]using hk);omega) lO hV oc bK jh ij
 .exact Zg ⟨bad,j4,by rw[<-hF];exact herr bad hy.o,rF _ _ bg,λh=>by simp at h⟩
def KB(x0:Nd)(resF:Except Zc (Zd Nd×Zc)):PR:=match resF with
 |.error e=>.error e
 |.ok y=>.ok (if y.1.length=1 then x0 else dn fa y.1,y.2)
theorem abA(h:fx T inn i=.ok (x,j)):fb T inn i=KB x (d7 T inn T.length [x] j):=by
 unfold fb KB;rw[h];rfl
theorem aby{bad:Zc}(h:fx T inn i=.error bad):fb T inn i=.error bad:=by
 unfold fb;rw[h]
section
variable {T:Zd (aj×Zc)} {inn:bc} {gk j:Zc} {l:Zd Nd}
theorem abw(hg:1<=gk)(h1:ag T j fa=Zn)(h2:ag T (j+1) iu=Zn)(hm:nP inn):(∀y j4,ko T inn (j+1)=.ok (y,j4)->j<j4/\d7 T inn gk l j=d7 T inn (gk-1) (l++[y]) j4)/\(∀bad,ko T inn (j+1)=.error bad->d7 T inn gk l j=.error bad):=by
 obtain⟨k,rfl⟩:∃k,gk=k+1:=⟨gk-1,by omega⟩
 refine⟨λy j4 h=>⟨by have:=Iw hm _ _ _ h;omega,?_⟩,λbad h=>?_⟩
 .rw[d7,Zm h1,Zm h2,h];rfl
 .rw[d7,Zm h1,Zm h2,h]
theorem abx(hg:1<=gk)(h1:ag T j fa=Zn)(h2:ag T (j+1) iu=Zb)(hm:nP inn):(∀y j4,fR T inn (j+1)=.ok (y,j4)->j<j4/\d7 T inn gk l j=d7 T inn (gk-1) (l++[y]) j4)/\(∀bad,fR T inn (j+1)=.error bad->d7 T inn gk l j=.error bad):=by
 obtain⟨k,rfl⟩:∃k,gk=k+1:=⟨gk-1,by omega⟩
 refine⟨λy j4 h=>⟨by have:=IN hm _ _ _ h;omega,?_⟩,λbad h=>?_⟩
 .rw[d7,Zm h1,h2,Zh (by simp),h];rfl
 .rw[d7,Zm h1,h2,Zh (by simp),h]
theorem abu(hg:1<=gk)(h1:ag T j fa=Zb)(h2:ag T j iu=Zn)(hm:nP inn):(∀y j4,jy T inn j=.ok (y,j4)->j<j4/\d7 T inn gk l j=d7 T inn (gk-1) (l++[y]) j4)/\(∀bad,jy T inn j=.error bad->d7 T inn gk l j=.error bad):=by
 obtain⟨k,rfl⟩:∃k,gk=k+1:=⟨gk-1,by omega⟩
 refine⟨λy j4 h=>⟨GM hm _ _ _ h,?_⟩,λbad h=>?_⟩
 .rw[d7,h1,Zh (by simp),Zm h2,h];rfl
 .rw[d7,h1,Zh (by simp),Zm h2,h]
theorem abv(hg:1<=gk)(h1:ag T j fa=Zb)(h2:ag T j iu=Zb):d7 T inn gk l j=.ok (l,j):=by
 obtain⟨k,rfl⟩:∃k,gk=k+1:=⟨gk-1,by omega⟩
 rw[d7,h1,Zh (by simp),h2,Zh (by simp)]
end
theorem agr{op:Zj}(hn:w3.heap.size=n)(aO:ao w3 68 lsl ps)(am:∀g,lsl.ownBlock=Za g->A g)(hs:cr w3 A l ps)(hA:A n):
 aJ (w3.alloc (bH op 0 ⟨#[]⟩ (.slice O 0 0) lsl 0 0 0 Zb Zb Zb (.pointer O))) A (dn op l) (.pointer (Za ⟨n,0,O⟩)):=by
 unfold dn aJ;have hb:Below w3.heap.size w3 (w3.alloc (bH op 0 ⟨#[]⟩ (.slice O 0 0) lsl 0 0 0 Zb Zb Zb (.pointer O))):=(Zt _ w3).alloc (Zq _) _;exact⟨n,_,lsl,ps,O,rfl,hA,aE hn,⟨Zi.ownsRow_nil _ _ _ _,λg hg=>by simp[Zo]at hg⟩,⟨Zv aO _,am⟩,cr.keep (Fm hb) _ _ hs,rfl⟩
theorem agw{op:Zj}(hn:w3.heap.size=n)(hM:M<=n):gx (w3.alloc (bH op 0 ⟨#[]⟩ (.slice O 0 0) lsl 0 0 0 Zb Zb Zb (.pointer O))) M (.pointer (Za ⟨n,0,O⟩)):=
 ⟨n,_,_,_,_,_,_,_,_,_,_,_,_,rfl,hM,aE hn⟩
theorem cr.head(h:cr w A (x::l) (p::ps)):aJ w A x p:=by
 unfold cr at h;obtain⟨p',ps'',e,h1,_⟩:=h;injection e with e1 e2;subst e1;exact h1
theorem Qi(V:Zc->Prop)(b g cap:Zc)(T:Zd (aj×Zc))(d:Zc)(inn:bc)(hinn:qw V b g cap T d inn)(hmono:nP inn):lS 150 #[] V b g cap T d (fb T inn):=by
 have OD:=aa (abR V b g cap T d inn hinn);have JZ:=aa (Qs V b g cap T d inn hinn (λw i h hV hs=>Qr V b g cap T d inn hinn w i h hV hs));intro w i h hV;have aR:XX (b<w.heap.size):=al h.blk;have aV:XX (∀m,V m->m≠b):=h.v;have iJ:XX (g<w.heap.size):=h.rowlt;have HV:=aa hV;have az:=h.len;have lX:=aa hinn;have sn:=aa hmono;have HF:=aa (OD.o w i h hV);clear h hV hinn hmono OD;go_enter func150,ntmps150;go_wp2_with fail;refine Ze HF.o ?_;rintro e w1 ⟨p,rfl,ae,cP⟩;have hP:∃m,p=.pointer (Za ⟨m,0,O⟩):=by
  rcases cP with⟨y,j4,hy,j5,dB,fc⟩|⟨bad5,j4,hy,dB,fc⟩
  .obtain⟨m4,e4,_⟩:=fc.o.ptr;exact⟨m4,e4⟩
  .obtain⟨m4,e4,_⟩:=fc.o.ptr;exact⟨m4,e4⟩
 obtain⟨m0,rfl⟩:=hP;have ay:w.heap.size<=w1.heap.size:=ae.size;have hI:∃x0 resF,fb T inn i=KB x0 resF/\Ju V b g cap T i d w inn (.pointer (Za ⟨m0,0,O⟩)) x0 resF T.length (.slice (Za ⟨w1.heap.size,0,O⟩) 1 1) (w1.alloc (.cells #[.pointer (Za ⟨m0,0,O⟩)] 68)):=by
  have aO:=wo w1 68 [.pointer (Za ⟨m0,0,O⟩)] (by unfold maxLen;simp);rcases cP with⟨y,j4,hy,j5,dB,fc⟩|⟨bad5,j4,hy,dB,fc⟩
  .refine⟨y,_,abA hy.o,ae.alloc _,w1.heap.size,1,[],rfl,ay,aO,by simp,Zk ⟨[],j4,rfl,by omega,j5,dB.alloc _,rY.one fc.o ay⟩⟩
  .refine⟨nH lA,.error bad5,by rw[aby hy.o];rfl,ae.alloc _,w1.heap.size,1,[],rfl,ay,aO,by simp,Zg ⟨bad5,j4,rfl,dB.alloc _,λ_=>fc.o.keep (λm o hm ho=>⟨Zp _ _ _ (al ho),hm⟩)⟩⟩
 obtain⟨x0,resF,hR,hI⟩:=hI;have HR:=aa hR;have HI:=aa hI;clear ae cP hR hI;go_wp2_with fail;go_loopg [4] T.length (λgh lv wr=>Ju V b g cap T i d w inn (.pointer (Za ⟨m0,0,O⟩)) x0 resF gh lv wr)
 case atStart=>exact HI.o
 case round=>
  obtain⟨aM,gl,cl,ps',rfl,BL,aO,em,eo⟩:=hrel;have dI:=aa aM;have dT:=aa aO;have vV:w.heap.size<=wr.heap.size:=aM.size;have al7:gl<wr.heap.size:=ao.lt aO rfl;clear aM aO HI;rcases eo with⟨l',j,hF,jM,ej,hp,hk⟩|⟨bad,j,hF,hp,hN⟩
  .obtain⟨k0,k1,k2,k3,kf⟩:=gE hp.blk;have jL:=hp.il;have qJ:1<=gk:=by omega
   obtain⟨B1,dX⟩:∃B,ag T j fa=B:=⟨_,rfl⟩
   have wR:=kH hp ⟨#[46]⟩ (B:=B1) (by rw[<-dX];simp[fa]);have HT:=aa wR;have gU:=aa dX;have HK:=aa hk;have Gb:=aa hF;clear wR dX hp hk hF k0 k1 k2 kf;go_wp2_with fail;refine Ze HT.o ?_;rintro e w2 ⟨rfl,ah,bb⟩;obtain⟨j',LT⟩:∃j',j'=if B1 then j+1 else j:=⟨_,rfl⟩
   rw[<-LT]at bb;obtain⟨C,hC⟩:∃B,ag T j' iu=B:=⟨_,rfl⟩
   have zg:=l6 bb 0 (by omega) iu;rw[show(decide ((-1:Zf)<0)&&ag T (j'+0) iu)=C by rw[Zc.add_zero,hC];rfl]at zg;have HS:=aa zg;have dV:=aa hC;have gd:=aa bb;have aY:XX (ab b w w2):=dI.o.trans ah;have lO:wr.heap.size<=w2.heap.size:=ah.size;have oR:=aa (HK.o.but ah aR.o aV.o);have HJ:=aa LT;clear zg hC bb ah LT k3 HK HT;go_wp2_with fail;refine Ze HS.o ?_;rintro e w3 ⟨rfl,mS⟩;subst mS;cases B1
   .have LW:j'=j:=by rw[HJ.o];rfl
    subst LW;cases C
    .have Dj:XX (resF=.ok (x0::l',j')):=by show _=_;rw[<-Gb.o];exact abv qJ gU.o dV.o
     have ie:XX (cr w3 (λm=>V m\/w.heap.size<=m) (x0::l') (.pointer (Za ⟨m0,0,O⟩)::ps')):=cr.keep (λm o hm ho=>⟨rfl,hm.1⟩) _ _ oR.o.refs;have j8:XX (ps'.length=l'.length):=by show _=_;have:=cr.len oR.o.refs;simpa using this
     have qr:XX (fb T inn i=.ok (if l'=[]then x0 else dn fa (x0::l'),j')):=by
      show _=_;rw[HR.o,Dj.o];cases l' <;> rfl
     cases ps' with
     |nil=>
      have hl:l'=[]:=by have:=j8.o;simpa using this.symm
      subst hl;go_wp2;go_ret;exact⟨_,rfl,aY.o,Zk ⟨x0,j',qr.o,ej,gd.o,ie.o.head⟩⟩
     |cons q0 qs=>
      have e1:((((q0::qs).length:Zf)+1)==1)=Zb:=Zr.2 (by simp;omega);have hl:l'≠[]:=λh=>by have:=j8.o;rw[h]at this;simp at this
      have HN:XX (aJ (w3.alloc (bH fa 0 ⟨#[]⟩ (.slice O 0 0) (.slice (Za ⟨gl,0,O⟩) ((q0::qs).length+1) cl) 0 0 0 Zb Zb Zb (.pointer O))) (λm=>V m\/w.heap.size<=m) (dn fa (x0::l')) (.pointer (Za ⟨w3.heap.size,0,O⟩))):=agr rfl oR.o.row (λg hg=>Zg (oR.o.own g hg)) ie.o (Zg (by omega));go_wp2;go_ret;exact⟨_,rfl,aY.o.alloc _,Zk ⟨dn fa (x0::l'),j',by show _=_;rw[qr.o,Zh hl],ej,gd.o.alloc _,HN.o⟩⟩
    .have HC:=aa (Qh V b g cap T d inn lX.o w3 j' gd.o (λm hm=>by have:=HV.o m hm;omega) dV.o);have gQ:=aa (abu (l:=x0::l') qJ gU.o dV.o sn.o);go_wp2_with fail;refine Ze HC.o ?_;rintro e w4 ⟨p,rfl,aB,jg⟩;have hP:∃m,p=.pointer (Za ⟨m,0,O⟩):=by
      rcases jg with⟨y,j4,hy,j5,dB,fc⟩|⟨bad5,j4,hy,dB,fc⟩
      .obtain⟨m4,e4,_⟩:=fc.o.ptr;exact⟨m4,e4⟩
      .obtain⟨m4,e4,_⟩:=fc.o.ptr;exact⟨m4,e4⟩
     obtain⟨m4,rfl⟩:=hP;have qY:=aa jg;have bq:XX (ab b w w4):=aY.o.trans aB;have oc:w3.heap.size<=w4.heap.size:=aB.size;have jv:=aa (oR.o.but aB aR.o aV.o);clear aB jg;go_wp2_with (at_builtin;refine pP rfl (.tmp 38) (.tmp 40) 132 68 rfl (.pointer O) 8 zR rfl underlying132 (by decide) (.slice (Za ⟨gl,0,O⟩) (ps'.length+1) cl) (.pointer (Za ⟨m0,0,O⟩)::ps') rfl ?_ _ _ (.pointer (Za ⟨m4,0,O⟩)) rfl ?_ rfl ?_ (w4.heap.size+1) ?_ ?_)
     .exact Zv jv.o.row _
     .exact my rfl
     .simp;omega
     .simp
     intro g5 cap5 w5 jh bK ij mP;have pL:=aa (Ku (i:=i) aR.o iJ.o HV.o aV.o bq.o jv.o (w2:=w3) (by omega) (by omega) oc qY.o jh bK ij qJ em jM ej Gb.o gQ.o.1 gQ.o.2);clear jh bK ij mP;go_wp2;go_roundg (gk-1)
     case measure=>omega
     case rel=>exact pL.o
   .have LW:j'=j+1:=by rw[HJ.o];rfl
    subst LW;cases C
    .have HC:=aa (JZ.o w3 (j+1) gd.o (λm hm=>by have:=HV.o m hm;omega));have gQ:=aa (abx (l:=x0::l') qJ gU.o dV.o sn.o);go_wp2_with fail;refine Ze HC.o ?_;rintro e w4 ⟨p,rfl,aB,jg⟩;have hP:∃m,p=.pointer (Za ⟨m,0,O⟩):=by
      rcases jg with⟨y,j4,hy,j5,dB,fc⟩|⟨bad5,j4,hy,dB,fc⟩
      .obtain⟨m4,e4,_⟩:=fc.o.ptr;exact⟨m4,e4⟩
      .obtain⟨m4,e4,_⟩:=fc.o.ptr;exact⟨m4,e4⟩
     obtain⟨m4,rfl⟩:=hP;have qY:=aa jg;have bq:XX (ab b w w4):=aY.o.trans aB;have oc:w3.heap.size<=w4.heap.size:=aB.size;have jv:=aa (oR.o.but aB aR.o aV.o);clear aB jg;go_wp2_with (at_builtin;refine pP rfl (.tmp 38) (.tmp 40) 132 68 rfl (.pointer O) 8 zR rfl underlying132 (by decide) (.slice (Za ⟨gl,0,O⟩) (ps'.length+1) cl) (.pointer (Za ⟨m0,0,O⟩)::ps') rfl ?_ _ _ (.pointer (Za ⟨m4,0,O⟩)) rfl ?_ rfl ?_ (w4.heap.size+1) ?_ ?_)
     .exact Zv jv.o.row _
     .exact my rfl
     .simp;omega
     .simp
     intro g5 cap5 w5 jh bK ij mP;have pL:=aa (Ku (i:=i) aR.o iJ.o HV.o aV.o bq.o jv.o (w2:=w3) (by omega) (by omega) oc qY.o jh bK ij qJ em jM ej Gb.o gQ.o.1 gQ.o.2);clear jh bK ij mP;go_wp2;go_roundg (gk-1)
     case measure=>omega
     case rel=>exact pL.o
    .have HC:=aa (Ql V b g cap T d inn lX.o w3 (j+1) gd.o (λm hm=>by have:=HV.o m hm;omega) dV.o);have gQ:=aa (abw (l:=x0::l') qJ gU.o dV.o sn.o);go_wp2_with fail;refine Ze HC.o ?_;rintro e w4 ⟨p,rfl,aB,jg⟩;have hP:∃m,p=.pointer (Za ⟨m,0,O⟩):=by
      rcases jg with⟨y,j4,hy,j5,dB,fc⟩|⟨bad5,j4,hy,dB,fc⟩
      .obtain⟨m4,e4,_⟩:=fc.o.ptr;exact⟨m4,e4⟩
      .obtain⟨m4,e4,_⟩:=fc.o.ptr;exact⟨m4,e4⟩
     obtain⟨m4,rfl⟩:=hP;have qY:=aa jg;have bq:XX (ab b w w4):=aY.o.trans aB;have oc:w3.heap.size<=w4.heap.size:=aB.size;have jv:=aa (oR.o.but aB aR.o aV.o);clear aB jg;go_wp2_with (at_builtin;refine pP rfl (.tmp 38) (.tmp 40) 132 68 rfl (.pointer O) 8 zR rfl underlying132 (by decide) (.slice (Za ⟨gl,0,O⟩) (ps'.length+1) cl) (.pointer (Za ⟨m0,0,O⟩)::ps') rfl ?_ _ _ (.pointer (Za ⟨m4,0,O⟩)) rfl ?_ rfl ?_ (w4.heap.size+1) ?_ ?_)
     .exact Zv jv.o.row _
     .exact my rfl
     .simp;omega
     .simp
     intro g5 cap5 w5 jh bK ij mP;have pL:=aa (Ku (i:=i) aR.o iJ.o HV.o aV.o bq.o jv.o (w2:=w3) (by omega) (by omega) oc qY.o jh bK ij qJ em jM ej Gb.o gQ.o.1 gQ.o.2);clear jh bK ij mP;go_wp2;go_roundg (gk-1)
     case measure=>omega
     case rel=>exact pL.o
  .obtain⟨k0,k1,k2,k3,kf⟩:=gE hp.blk;have hn:¬((bad:Zf)<0):=by omega
   have qr:XX (fb T inn i=.error bad):=by show _=_;rw[HR.o,hF];rfl
   have HP:=aa hp;have HN:=aa hN;clear hp hN hF k0 k1 k2;cases ps' with
   |nil=>
    go_wp2;go_ret
    first|exact⟨_,rfl,dI.o,Zg ⟨bad,j,qr.o,HP.o,HN.o (by trivial)⟩⟩|exact⟨_,rfl,dI.o,Zg ⟨bad,qr.o,⟨j,HP.o⟩,HN.o (by trivial)⟩⟩
   |cons q0 qs=>
    have e1:((((q0::qs).length:Zf)+1)==1)=Zb:=Zr.2 (by simp;omega);go_wp2;go_ret;have hX:=agw (w3:=wr) (op:=fa) (lsl:=.slice (Za ⟨gl,0,O⟩) ((q0::qs).length+1) cl) (M:=w.heap.size) rfl vV
    first|exact⟨_,rfl,dI.o.alloc _,Zg ⟨bad,j,qr.o,HP.o.alloc _,hX⟩⟩|exact⟨_,rfl,dI.o.alloc _,Zg ⟨bad,qr.o,⟨j,HP.o.alloc _⟩,hX⟩⟩
theorem MA(V:Zc->Prop)(b g cap:Zc)(T:Zd (aj×Zc)):∀n,n<=12->qw V b g cap T (12-n) (bV T n)
 |0,_=>rfl
 |n+1,h=>by
  have ih:=MA V b g cap T n (by omega);have oF:=Qi V b g cap T (12-n) (bV T n) ih (tn n);have e:12-(n+1)+1=12-n:=by omega
  refine⟨by omega,?_,?_⟩
  .rw[e];exact Qq V b g cap T (12-n) (by omega) _ ih oF
  .rw[e];exact Qt V b g cap T (12-n) (by omega) _ ih oF
theorem abP(V:Zc->Prop)(b g cap:Zc)(T:Zd (aj×Zc)):lS 59 #[.int .i64 0] V b g cap T 0 (fm T (bV T 12) 3):=
 Qt V b g cap T 0 (by omega) _ (MA V b g cap T 12 (by omega)) (Qi V b g cap T 0 _ (MA V b g cap T 12 (by omega)) (tn 12))
def wU(w:Zi)(A:Zc->Prop)(m:Zc):Prop:=A m/\∃o,w.heap[m]?=Za o/\Ki o
theorem N9{k n:Zf}{l ks:Zl}{W:Zf}:Ki (dq k n s l ks W):=by
 intro c f e;unfold dq at e;injection e with _ e2 _;exact absurd e2 (by decide)
theorem Ny{e:TypeId}{xs:Zd Zl}(h:ao w e v xs)(he:e≠136)(hA:∀g,v.ownBlock=Za g->A g):∀g,v.ownBlock=Za g->wU w A g:=by
 intro g hg;refine⟨hA g hg,?_⟩;rcases h.2 with h3|⟨g',cap',cur,e',h0,hg',r⟩
 .rw[h3.1]at hg;simp[Zo]at hg
 .rw[e']at hg;have eg:g'=g:=by simpa[Zo]using hg
  subst eg;refine⟨_,hg',?_⟩;intro c f e2;injection e2 with _ e3 _;exact absurd e3 he
theorem Us{l:Lf}(h:DO w A l p):DO w (wU w A) l p:=by
 obtain⟨m,W,hp,hA,hh⟩:=h;refine⟨m,W,hp,⟨hA,_,hh,?_⟩,hh⟩;obtain⟨k,n,s,e⟩:=MI l W;rw[e];exact N9
theorem br.nots:∀(n:Zc) {w:Zi} {A:Zc->Prop} {v:VT n} {p:Zl},br n w A v p->br n w (wU w A) v p
 |0,w,A,v,p,h=>Us h
 |n+1,w,A,v,p,h=>by
  match v,h with
  |Sum.inl l,h=>exact Us h
  |Zx (Sum.inl vs),h=>
   obtain⟨m,W,l,ps,hp,hA,hh,hr,hl,cG⟩:=h;exact⟨m,W,l,ps,hp,⟨hA,_,hh,N9⟩,hh,hr,Ny hr (by decide) hl,cG.mono (λa b eA=>br.nots n eA)⟩
  |Zx (Zx (ks,vs)),h=>
   obtain⟨m,W,l,ksl,ps,hp,hA,hh,hr,me,hl,dO,az,cG⟩:=h;exact⟨m,W,l,ksl,ps,hp,⟨hA,_,hh,N9⟩,hh,hr,me,Ny hr (by decide) hl,Ny me (by decide) dO,az,cG.mono (λa b eA=>br.nots n eA)⟩
theorem TV.nots{k:aj}{q:Option Addr}(h:TV w A k q):TV w (wU w A) k q:=by
 unfold TV at *;cases hv:k.val with
 |none=>rw[hv]at h;exact h
 |some v=>rw[hv]at h;exact⟨h.1,h.2.1,br.nots 12 h.2.2⟩
theorem kc.nots:∀{l:Zd (aj×Zc)} {xs:Zd Zl},kc w A l xs->kc w (wU w A) l xs
 |[],xs,h=>h
 |x::l,xs,h=>by
  obtain⟨q,ys,h1,h2,h3⟩:=h;exact⟨q,ys,h1,h2.nots,kc.nots h3⟩
theorem qy.nots{N:Zc}{l:Zd (aj×Zc)}(h:qy w N A v l):qy w N (wU w A) v l:=by
 obtain⟨xs,h1,h2⟩:=h;exact⟨xs,h1,h2.nots⟩
def CO:Zd (Zj×Zj):=[(⟨#[97,98,115]⟩,⟨#[110]⟩),(⟨#[99,101,105,108]⟩,⟨#[110]⟩),(⟨#[102,108,111,111,114]⟩,⟨#[110]⟩),(⟨#[97,118,103]⟩,⟨#[78]⟩),(⟨#[115,117,109]⟩,⟨#[78]⟩),(⟨#[99,111,110,116,97,105,110,115]⟩,⟨#[98,97]⟩),(⟨#[115,116,97,114,116,115,95,119,105,116,104]⟩,⟨#[115,115]⟩),(⟨#[101,110,100,115,95,119,105,116,104]⟩,⟨#[115,115]⟩),(⟨#[106,111,105,110]⟩,⟨#[115,83]⟩),(⟨#[107,101,121,115]⟩,⟨#[111]⟩),(⟨#[118,97,108,117,101,115]⟩,⟨#[111]⟩),(⟨#[108,101,110,103,116,104]⟩,⟨#[122]⟩),(⟨#[109,97,112]⟩,⟨#[38,108]⟩),(⟨#[109,97,120]⟩,⟨#[79]⟩),(⟨#[109,105,110]⟩,⟨#[79]⟩),(⟨#[115,111,114,116]⟩,⟨#[79]⟩),(⟨#[109,97,120,95,98,121]⟩,⟨#[108,38]⟩),(⟨#[109,105,110,95,98,121]⟩,⟨#[108,38]⟩),(⟨#[115,111,114,116,95,98,121]⟩,⟨#[108,38]⟩),(⟨#[109,101,114,103,101]⟩,⟨#[111,43]⟩),(⟨#[110,111,116,95,110,117,108,108]⟩,⟨#[97,43]⟩),(⟨#[114,101,118,101,114,115,101]⟩,⟨#[98]⟩),(⟨#[116,121,112,101]⟩,⟨#[97]⟩),(⟨#[116,111,95,97,114,114,97,121]⟩,⟨#[97]⟩),(⟨#[116,111,95,110,117,109,98,101,114]⟩,⟨#[97]⟩),(⟨#[116,111,95,115,116,114,105,110,103]⟩,⟨#[97]⟩)]
def fq(s:Zj):Zj:=match CO.find? (λx=>decide (s=x.1))with
 |some x=>x.2
 |none=>⟨#[]⟩
mutual
def eN:Nd->Bool
 | .mk op _ _ _ l _ _ _ _ _ _ v=>(decide (op=kr)&&v.isNone) || gz l
def gz:Zd Nd->Bool
 |[]=>Zb
 | x::l=>eN x || gz l
end
def jH(more:Bool)(t:Zj):Zc->Zd Nd->Bool
 |_,[]=>Zb
 | i,x::l=>(decide (x.op=eF) != decide ((if more then 97 else gb t i)=38)) || jH more t (i+1) l
def gB(s:Zj)(l:Zd Nd):Zf:=
 if(fq s).size=0 then 3
 else if(gb (fq s) ((fq s).size-1)=43/\l.length=0)\/(gb (fq s) ((fq s).size-1)≠43/\l.length≠(fq s).size)then 4
 else if jH (decide (gb (fq s) ((fq s).size-1)=43)) (fq s) 0 l then 4 else 0
mutual
def iZ:Nd->Zc×Zf
 |.mk op a s _ l _ _ _ _ _ _ _=>if op=eX/\gB s l≠0 then(a,gB s l)else mn l
def mn:Zd Nd->Zc×Zf
 |[]=>(0,0)
 |x::l=>if(iZ x).2≠0 then iZ x else mn l
end
theorem fZ{l:Zd UInt8}(h:s≠⟨l.toArray⟩):(s.toList==l)=Zb:=by
 rw[Zr];intro e;apply h
 rw[ZA]at e;cases s with
 |mk d=>simp only at e;rw[<-e]
theorem uA{l:Zd UInt8}(h:s=⟨l.toArray⟩):(s.toList==l)=Zn:=by
 subst h;rw[ZA];simp
theorem aji(s:Zj)(w:Zi):Calls prog 98 #[.string s] w λe w'=>e=.returned (.string (fq s))/\w'=w:=by
 by_cases h1:s=⟨#[97,98,115]⟩
 .subst h1;go_enter func98,ntmps98;go_wp2;go_ret;exact⟨rfl,rfl⟩
 by_cases h2:s=⟨#[99,101,105,108]⟩
 .subst h2;go_enter func98,ntmps98;go_wp2;go_ret;exact⟨rfl,rfl⟩
 by_cases h3:s=⟨#[102,108,111,111,114]⟩
 .subst h3;go_enter func98,ntmps98;go_wp2;go_ret;exact⟨rfl,rfl⟩
 by_cases h4:s=⟨#[97,118,103]⟩
 .subst h4;go_enter func98,ntmps98;go_wp2;go_ret;exact⟨rfl,rfl⟩
 by_cases h5:s=⟨#[115,117,109]⟩
 .subst h5;go_enter func98,ntmps98;go_wp2;go_ret;exact⟨rfl,rfl⟩
 by_cases h6:s=⟨#[99,111,110,116,97,105,110,115]⟩
 .subst h6;go_enter func98,ntmps98;go_wp2;go_ret;exact⟨rfl,rfl⟩
 by_cases h7:s=⟨#[115,116,97,114,116,115,95,119,105,116,104]⟩
 .subst h7;go_enter func98,ntmps98;go_wp2;go_ret;exact⟨rfl,rfl⟩
 by_cases h8:s=⟨#[101,110,100,115,95,119,105,116,104]⟩
 .subst h8;go_enter func98,ntmps98;go_wp2;go_ret;exact⟨rfl,rfl⟩
 by_cases h9:s=⟨#[106,111,105,110]⟩
 .subst h9;go_enter func98,ntmps98;go_wp2;go_ret;exact⟨rfl,rfl⟩
 by_cases lp:s=⟨#[107,101,121,115]⟩
 .subst lp;go_enter func98,ntmps98;go_wp2;go_ret;exact⟨rfl,rfl⟩
 by_cases pS:s=⟨#[118,97,108,117,101,115]⟩
 .subst pS;go_enter func98,ntmps98;go_wp2;go_ret;exact⟨rfl,rfl⟩
 by_cases fD:s=⟨#[108,101,110,103,116,104]⟩
 .subst fD;go_enter func98,ntmps98;go_wp2;go_ret;exact⟨rfl,rfl⟩
 by_cases mB:s=⟨#[109,97,112]⟩
 .subst mB;go_enter func98,ntmps98;go_wp2;go_ret;exact⟨rfl,rfl⟩
 by_cases vn:s=⟨#[109,97,120]⟩
 .subst vn;go_enter func98,ntmps98;go_wp2;go_ret;exact⟨rfl,rfl⟩
 by_cases sF:s=⟨#[109,105,110]⟩
 .subst sF;go_enter func98,ntmps98;go_wp2;go_ret;exact⟨rfl,rfl⟩
 by_cases xi:s=⟨#[115,111,114,116]⟩
 .subst xi;go_enter func98,ntmps98;go_wp2;go_ret;exact⟨rfl,rfl⟩
 by_cases h17:s=⟨#[109,97,120,95,98,121]⟩
 .subst h17;go_enter func98,ntmps98;go_wp2;go_ret;exact⟨rfl,rfl⟩
 by_cases h18:s=⟨#[109,105,110,95,98,121]⟩
 .subst h18;go_enter func98,ntmps98;go_wp2;go_ret;exact⟨rfl,rfl⟩
 by_cases h19:s=⟨#[115,111,114,116,95,98,121]⟩
 .subst h19;go_enter func98,ntmps98;go_wp2;go_ret;exact⟨rfl,rfl⟩
 by_cases h20:s=⟨#[109,101,114,103,101]⟩
 .subst h20;go_enter func98,ntmps98;go_wp2;go_ret;exact⟨rfl,rfl⟩
 by_cases h21:s=⟨#[110,111,116,95,110,117,108,108]⟩
 .subst h21;go_enter func98,ntmps98;go_wp2;go_ret;exact⟨rfl,rfl⟩
 by_cases h22:s=⟨#[114,101,118,101,114,115,101]⟩
 .subst h22;go_enter func98,ntmps98;go_wp2;go_ret;exact⟨rfl,rfl⟩
 by_cases h23:s=⟨#[116,121,112,101]⟩
 .subst h23;go_enter func98,ntmps98;go_wp2;go_ret;exact⟨rfl,rfl⟩
 by_cases h24:s=⟨#[116,111,95,97,114,114,97,121]⟩
 .subst h24;go_enter func98,ntmps98;go_wp2;go_ret;exact⟨rfl,rfl⟩
 by_cases h25:s=⟨#[116,111,95,110,117,109,98,101,114]⟩
 .subst h25;go_enter func98,ntmps98;go_wp2;go_ret;exact⟨rfl,rfl⟩
 by_cases h26:s=⟨#[116,111,95,115,116,114,105,110,103]⟩
 .subst h26;go_enter func98,ntmps98;go_wp2;go_ret;exact⟨rfl,rfl⟩
 have HN:XX (fq s=⟨#[]⟩):=by
  show _=_;unfold fq CO;simp only[Zd.find?,h1,h2,h3,h4,h5,h6,h7,h8,h9,lp,pS,fD,mB,vn,sF,xi,h17,h18,h19,h20,h21,h22,h23,h24,h25,h26,decide_false]
 obtain⟨r,hr⟩:∃r,r=fq s:=⟨_,rfl⟩
 rw[<-hr];rw[HN.o]at hr;have HR:=aa hr;have n1:(s.toList==[97,98,115])=Zb:=fZ h1;have n2:(s.toList==[99,101,105,108])=Zb:=fZ h2;have n3:(s.toList==[102,108,111,111,114])=Zb:=fZ h3;have n4:(s.toList==[97,118,103])=Zb:=fZ h4;have n5:(s.toList==[115,117,109])=Zb:=fZ h5;have n6:(s.toList==[99,111,110,116,97,105,110,115])=Zb:=fZ h6;have n7:(s.toList==[115,116,97,114,116,115,95,119,105,116,104])=Zb:=fZ h7;have n8:(s.toList==[101,110,100,115,95,119,105,116,104])=Zb:=fZ h8;have n9:(s.toList==[106,111,105,110])=Zb:=fZ h9;have n10:(s.toList==[107,101,121,115])=Zb:=fZ lp;have n11:(s.toList==[118,97,108,117,101,115])=Zb:=fZ pS;have n12:(s.toList==[108,101,110,103,116,104])=Zb:=fZ fD;have n13:(s.toList==[109,97,112])=Zb:=fZ mB;have n14:(s.toList==[109,97,120])=Zb:=fZ vn;have n15:(s.toList==[109,105,110])=Zb:=fZ sF;have n16:(s.toList==[115,111,114,116])=Zb:=fZ xi;have n17:(s.toList==[109,97,120,95,98,121])=Zb:=fZ h17;have n18:(s.toList==[109,105,110,95,98,121])=Zb:=fZ h18;have n19:(s.toList==[115,111,114,116,95,98,121])=Zb:=fZ h19;have n20:(s.toList==[109,101,114,103,101])=Zb:=fZ h20;have n21:(s.toList==[110,111,116,95,110,117,108,108])=Zb:=fZ h21;have n22:(s.toList==[114,101,118,101,114,115,101])=Zb:=fZ h22;have n23:(s.toList==[116,121,112,101])=Zb:=fZ h23;have n24:(s.toList==[116,111,95,97,114,114,97,121])=Zb:=fZ h24;have n25:(s.toList==[116,111,95,110,117,109,98,101,114])=Zb:=fZ h25;have n26:(s.toList==[116,111,95,115,116,114,105,110,103])=Zb:=fZ h26;clear hr h1 h2 h3 h4 h5 h6 h7 h8 h9 lp pS fD mB vn sF xi h17 h18 h19 h20 h21 h22 h23 h24 h25 h26;go_enter func98,ntmps98;go_wp2;go_ret;exact⟨by rw[HR.o];rfl,rfl⟩
end Go.Proofs.YtdlgkgfeoiohiaaGreatDoor
