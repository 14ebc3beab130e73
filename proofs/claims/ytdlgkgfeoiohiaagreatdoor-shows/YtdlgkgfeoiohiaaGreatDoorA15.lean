/- Part 15. -/
import Derived.Test.YtdlgkgfeoiohiaaGreatDoorA09
import Derived.Test.YtdlgkgfeoiohiaaGreatDoorA10
open Bool renaming false -> Za,true -> Zl
open Go renaming World -> Zk,asAddr -> Zn,bodyPost_ret -> Zo,Value -> Zp
open Go.RowKit renaming Below -> Zc
open Go.RowKit.Below renaming refl -> Zm
open Go.World renaming cell? -> Zg,frozen? -> Zu,setCell -> Zv
open List renaming length_append -> Zr
open Nat renaming le_refl -> Zh
open Option renaming none -> O,some -> Zb
open UInt8 renaming ofNat -> Zt
open _root_ renaming Nat -> Zd,Int -> Ze,if_neg -> Zf,ByteArray -> Zi,if_pos -> Zj,beq_eq_false_iff_ne -> Zq
namespace Go.Proofs.YtdlgkgfeoiohiaaGreatDoor
set_option linter.unusedVariables false
set_option maxHeartbeats 16000000
set_option maxRecDepth 100000
open Go.RowKit J Tryz
variable {w:Zk}{m B:Zd}
theorem aa{p:Prop}(h:p):XX p:=h
def gt(w:Zk)(m:Zd)(x0 x1 x2 x3 x4:Zp):Zk:=((((w.setCell ⟨m,0,O⟩ x0).setCell ⟨m,1,O⟩ x1).setCell ⟨m,2,O⟩ x2).setCell ⟨m,3,O⟩ x3).setCell ⟨m,4,O⟩ x4
theorem py{y0 y1 y2 y3 y4:Zp}{t:TypeId}(x0 x1 x2 x3 x4:Zp)(h:w.heap[m]?=Zb (.cells #[y0,y1,y2,y3,y4] t (0,0))):(gt w m x0 x1 x2 x3 x4).heap[m]?=Zb (.cells #[x0,x1,x2,x3,x4] t (0,0)):=by
 have h1:=cY (o:=0) h x0;have h2:=cY (o:=1) h1 x1;have h3:=cY (o:=2) h2 x2;have h4:=cY (o:=3) h3 x3;have h5:=cY (o:=4) h4 x4;exact h5
theorem rV{w0:Zk}(x0 x1 x2 x3 x4:Zp)(h:Zc B w0 w)(hm:B<=m):Zc B w0 (gt w m x0 x1 x2 x3 x4):=
 ((((h.setCell hm _).setCell hm _).setCell hm _).setCell hm _).setCell hm _
def lR(u:Zi):Zd->Zd->Bool
 |0,_=>Za
 |f+1,k=>if gb u k<0 then Zl else if gb u k<128 then lR u f (k+1)else if(et u k (-1)).2<0 then lR u f (et u k (-1)).1 else Za
def pz(u:Zi):Bool:=lR u (u.size+1) 0
theorem ajU(u:Zi)(w:Zk)(hs:u.size<=1000):
 Calls prog 189 #[.string u] w λe w'=>e=.returned (.bool (pz u))/\Zc w.heap.size w w':=by
 obtain⟨R,hR⟩:∃R,R=pz u:=⟨_,rfl⟩
 have HR:XX (lR u (u.size+1) 0=R):=hR.symm;rw[<-hR];clear hR;obtain⟨b,ru⟩:∃b,b=w.heap.size:=⟨_,rfl⟩
 have C8:XX (b=w.heap.size):=ru;have oB:(w.alloc (aq u 0 0 (-1) Za)).heap[b]?=Zb (aq u (0:Zd) 0 (-1) Za):=aE ru.symm;have Oo:XX ((w.alloc (aq u 0 0 (-1) Za)).heap[b]?=Zb (aq u (0:Zd) 0 (-1) Za)):=oB;clear oB ru;go_enter func189,ntmps189;go_wp2_with fail;rw[<-C8.o];go_loopg [] (u.size+2) (λg wr=>Zc b w wr/\b<wr.heap.size/\∃k bad,wr.heap[b]?=Zb (aq u k 0 bad Za)/\-1<=bad/\((bad=-1/\k<=u.size/\u.size+1<k+g/\∃f,f+1=g/\lR u f k=R)\/(0<=bad/\0<g/\R=Za)))
 case atStart=>exact⟨(Zm _ w).alloc (by rw[C8.o];exact Zh _) _,by rw[C8.o];simp,0,-1,Oo.o,by omega,.inl ⟨rfl,Zd.zero_le _,by omega,u.size+1,by omega,HR.o⟩⟩
 case round=>
  obtain⟨ba,ai,k,bad,cd,bU,zE⟩:=hrel;have wF:XX (wr.heap[b]?=Zb (aq u k 0 bad Za)):=cd;obtain⟨g0,g1,g2,g3,g4,hf⟩:=fS cd;clear cd g0 g2 g4 Oo HR;rcases zE with⟨rfl,hk,hkg,f,RJ,hF⟩|⟨adK,fO,rfl⟩
  .have HF:XX (lR u f k=R):=hF;have Dk:XX (f+1=gk):=RJ;obtain⟨f',rfl⟩:∃f',f=f'+1:=⟨f-1,by omega⟩
   obtain⟨c,hc⟩:∃c,c=gb u k:=⟨_,rfl⟩
   have bF:=iN u k;rw[<-hc]at bF;have HC:XX (gb u k=c):=hc.symm;clear hF RJ hc;rcases(show c<0\/(0<=c/\c<128)\/128<=c from by omega)with h|h|h
   .have nO:XX (R=Zl):=by show _=_;rw[<-HF.o,lR,HC.o,Zj h]
    go_wp2_with fail;refine(dC b u k 0 (-1) Za _ wF.o).mono ?_;rintro e w1 ⟨rfl,n1,rfl⟩;rw[ct,HC.o];go_wp2_with fail;go_ret;rw[nO.o];exact⟨rfl,by rw[<-C8.o];exact⟨ba.os,ba.tape,ba.output,ba.size,ba.block⟩⟩
   .have EX:k<u.size:=cC (by rw[HC.o];omega);have HN:XX (lR u f' (k+1)=R):=by show _=_;rw[<-HF.o,lR,HC.o,Zf (by omega),Zj h.2]
    go_wp2_with fail;refine(dC b u k 0 (-1) Za _ wF.o).mono ?_;rintro e w1 ⟨rfl,n1,rfl⟩;rw[ct,HC.o];go_wp2_with fail;refine(dC b u k 0 (-1) Za _ (by exact wF.o)).mono ?_;rintro e w2 ⟨rfl,n2,rfl⟩;rw[ct,HC.o];go_wp2_with fail;go_roundg (f'+1)
    case measure=>have:=Dk.o;omega
    case rel=>
     refine⟨⟨ba.os,ba.tape,ba.output,by have:=ba.size;simp[Zv];omega,λi hi=>?_⟩,by simp[Zv];omega,k+1,-1,ml (w:=(wr.drewN n1).drewN n2) wF.o (k+1) (by omega),by omega,.inl ⟨rfl,by omega,by have:=Dk.o;omega,f',rfl,HN.o⟩⟩;rw[Zc.heap_setCell _ _ _ _ (by show i≠b;omega)];exact ba.block i hi
   .have EX:k<u.size:=cC (by rw[HC.o];omega);obtain⟨k',bad',hM⟩:∃k' bad',et u k (-1)=(k',bad'):=⟨_,_,rfl⟩
    have HM:XX (et u k (-1)=(k',bad')):=hM;have WT:XX (bad'<0->k+2<=k'/\k'<=u.size/\bad'=-1):=λhb=>by have:=Cq (s:=u) (k:=k) (by rw[hM];exact hb);rw[hM]at this;exact⟨this.1,this.2.1,this.2.2.2⟩
    clear hM;go_wp2_with fail;refine(dC b u k 0 (-1) Za _ wF.o).mono ?_;rintro e w1 ⟨rfl,n1,rfl⟩;rw[ct,HC.o];go_wp2_with fail;refine(dC b u k 0 (-1) Za _ (by exact wF.o)).mono ?_;rintro e w2 ⟨rfl,n2,rfl⟩;rw[ct,HC.o];go_wp2_with fail;refine(Tp b u k 0 (-1) Za _ (by exact wF.o) hs (by omega)).mono ?_;rintro e w3 ⟨rfl,ap,di⟩;rw[HM.o]at di;have dr:Zc b w w3:=by
     have h1:Zc b w (wr.drewN (n1+n2)):=⟨ba.os,ba.tape,ba.output,ba.size,ba.block⟩
     exact h1.trans (ap.below (Zh _) (by show b<=wr.heap.size;omega))
    have un:b<w3.heap.size:=Zd.lt_of_lt_of_le ai ap.size;go_wp2_with fail;by_cases hneg:bad'<0
    .obtain⟨m1,m2,m3⟩:=WT.o hneg;have HN:XX (lR u f' k'=R):=by show _=_;rw[<-HF.o,lR,HC.o,Zf (by omega),Zf (by omega),HM.o,Zj hneg]
     go_roundg (f'+1)
     case measure=>have:=Dk.o;omega
     case rel=>exact⟨dr,un,k',bad',di,by omega,.inl ⟨m3,m2,by have:=Dk.o;omega,f',rfl,HN.o⟩⟩
    .have HN:XX (R=Za):=by show _=_;rw[<-HF.o,lR,HC.o,Zf (by omega),Zf (by omega),HM.o,Zf hneg]
     go_roundg (f'+1)
     case measure=>have:=Dk.o;omega
     case rel=>exact⟨dr,un,k',bad',di,by omega,.inr ⟨by omega,by omega,HN.o⟩⟩
  .go_wp2_with fail;refine(dC b u k 0 bad Za _ wF.o).mono ?_;rintro e w1 ⟨rfl,n1,rfl⟩;rw[ro u k adK];go_wp2_with fail;go_ret;exact⟨congrArg (λb=>Ending.returned (.bool b)) (decide_eq_false (by omega):decide (bad<0)=Za),by rw[<-C8.o];exact⟨ba.os,ba.tape,ba.output,ba.size,ba.block⟩⟩
def tV(u:Zi)(t:Zp)(z:Zd):Prop:=
 if(aw u 0).2.2<0 then z=(aw u 0).2.1/\t=bD 113 0 ⟨(aw u 0).1.toArray⟩ 0 (.pointer O)else z=0/\t=bD 120 0 ⟨#[]⟩ 0 (.pointer O)
theorem aid(u:Zi)(w:Zk)(hs:u.size<=1000):
 Calls prog 143 #[.string u] w λe w'=>∃t z,e=.returned (.tuple #[t,.int .i64 (z:Zd)])/\Zc w.heap.size w w'/\XX (tV u t z):=by
 obtain⟨x,k',bad',hT⟩:∃x k' bad',aw u 0=(x,k',bad'):=⟨_,_,_,rfl⟩
 have HT:XX (aw u 0=(x,k',bad')):=hT;clear hT;obtain⟨W,hW⟩:∃W,W=w.alloc (.cells #[.int .u8 0,.int .i64 0,.string ⟨#[]⟩,.int .i64 0,.pointer O] 128):=⟨_,rfl⟩
 have HW:XX (W=w.alloc (.cells #[.int .u8 0,.int .i64 0,.string ⟨#[]⟩,.int .i64 0,.pointer O] 128)):=hW;have lr:W.heap.size=w.heap.size+1:=by rw[hW];simp
 have zN:W.heap[w.heap.size]?=Zb (.cells #[.int .u8 0,.int .i64 0,.string ⟨#[]⟩,.int .i64 0,.pointer O] 128 (0,0)):=by rw[hW];exact aE rfl
 have HQ:=aa (I9 (w.heap.size+1) u 0 0 Za (W.alloc (aq u 0 0 (-1) Za)) (aE lr) hs);rw[HT.o]at HQ;have aL:XX (W.heap[w.heap.size]?=Zb (.cells #[.int .u8 0,.int .i64 0,.string ⟨#[]⟩,.int .i64 0,.pointer O] 128 (0,0))):=zN;have pU:Zc w.heap.size w W:=by rw[hW];exact(Zm _ w).alloc (Zh _) _
 have bB:XX (Zc w.heap.size w W):=pU;clear zN pU;subst hW;go_enter func143,ntmps143;go_wp2_with fail;refine Calls.mono HQ.o ?_;rintro e w1 ⟨rfl,ae,eP⟩;have cV:w1.heap[w.heap.size]?=Zb (.cells #[.int .u8 0,.int .i64 0,.string ⟨#[]⟩,.int .i64 0,.pointer O] 128 (0,0)):=(ae.block w.heap.size (by simp;omega) (by intro e;injection e;omega)).trans (cj aL.o);have dX:Zc w.heap.size w w1:=(bB.o.alloc (by simp) _).trans (ae.below (by omega) (by simp;omega));have aT:XX (Zc w.heap.size w w1):=dX;obtain⟨g0,g1,g2,g3,g4,hf⟩:=fS eP;have t0:w1.cell? ⟨w.heap.size,0,O⟩=Zb (.int .u8 0):=by simp[Zg,cV]
 have t1:w1.cell? ⟨w.heap.size,1,O⟩=Zb (.int .i64 0):=by simp[Zg,cV]
 have t2:w1.cell? ⟨w.heap.size,2,O⟩=Zb (.string ⟨#[]⟩):=by simp[Zg,cV]
 have t3:w1.cell? ⟨w.heap.size,3,O⟩=Zb (.int .i64 0):=by simp[Zg,cV]
 have t4:w1.cell? ⟨w.heap.size,4,O⟩=Zb (.pointer O):=by simp[Zg,cV]
 have tf:∀o,w1.frozen? ⟨w.heap.size,o,O⟩=Za:=by intro o;simp[Zu,cV]
 have lh:=aa cV;clear ae eP g0 g2 g4 dX cV lr;by_cases hneg:bad'<0
 .have J1:XX (tV u (bD 113 0 ⟨x.toArray⟩ 0 (.pointer O)) k'):=by show tV _ _ _;rw[tV,HT.o,Zj hneg];exact⟨rfl,rfl⟩
  go_wp2_with fail
  go_region
  all_goals
   go_wp2;have hl:=iw w.heap.size _ _ _ _ _ (gt w1 w.heap.size (.int .u8 113) (.int .i64 0) (.string ⟨x.toArray⟩) (.int .i64 0) (.pointer O)).drew (py _ _ _ _ _ lh.o);unfold gt at hl;refine Zo (v:=.tuple #[bD 113 0 ⟨x.toArray⟩ 0 (.pointer O),.int .i64 k']) (by simp[results,results143,bD,Zn,hl]) rfl ?_;exact⟨_,k',rfl,(rV (.int .u8 113) (.int .i64 0) (.string ⟨x.toArray⟩) (.int .i64 0) (.pointer O) aT.o (Zh _)).drew,J1.o⟩
 .have J1:XX (tV u (bD 120 0 ⟨#[]⟩ 0 (.pointer O)) 0):=by show tV _ _ _;rw[tV,HT.o,Zf hneg];exact⟨rfl,rfl⟩
  go_wp2;have hl:=iw w.heap.size _ _ _ _ _ (gt w1 w.heap.size (.int .u8 120) (.int .i64 0) (.string ⟨#[]⟩) (.int .i64 0) (.pointer O)) (py _ _ _ _ _ lh.o);unfold gt at hl;refine Zo (v:=.tuple #[bD 120 0 ⟨#[]⟩ 0 (.pointer O),.int .i64 0]) (by simp[results,results143,bD,Zn,hl]) rfl ?_;exact⟨_,0,rfl,rV (.int .u8 120) (.int .i64 0) (.string ⟨#[]⟩) (.int .i64 0) (.pointer O) aT.o (Zh _),J1.o⟩
def iX(u:Zi):Zd->Zd->List UInt8->List UInt8×Zd
 |0,_,_=>([],0)
 |f+1,i,out=>
  if gb u i<0 then([],0)
  else if gb u i=39 then(if pz (bs out)then(out,i+1)else([],0))
  else if gb u i=92 then(if gb u (i+1)=39\/gb u (i+1)=92 then iX u f (i+2) (out++[Zt (gb u (i+1)).toNat])else([],0))
  else iX u f (i+1) (out++[Zt (gb u i).toNat])
def oL(u:Zi):List UInt8×Zd:=iX u (u.size+1) 1 []
def vd(R:List UInt8×Zd)(t:Zp)(z:Zd):Prop:=
 z=R.2/\t=if R.2=0 then bD 120 0 ⟨#[]⟩ 0 (.pointer O)else bD 114 0 (bs R.1) 0 (.pointer O)
theorem Jg{u:Zi}{j:Zd}(h:j<u.size):Zt (gb u j).toNat=u[j]'h:=by rw[ew h];simp
theorem tX{w':Zk}{k:Zd}{o:Obj}(h:Zc B w w')(hk:k<B)(hh:w.heap[k]?=Zb o):w'.heap[k]?=Zb o:=(h.block k hk).trans hh
theorem aie(u:Zi)(w:Zk)(hs:u.size<=1000)(h0:0<u.size):
 Calls prog 144 #[.string u] w λe w'=>∃t z,e=.returned (.tuple #[t,.int .i64 (z:Zd)])/\Zc w.heap.size w w'/\XX (vd (oL u) t z):=by
 obtain⟨R,hR⟩:∃R,R=oL u:=⟨_,rfl⟩
 have HR:XX (iX u (u.size+1) 1 []=R):=hR.symm;rw[<-hR];clear hR;obtain⟨W,hW⟩:∃W,W=w.alloc (.cells #[.int .u8 0,.int .i64 0,.string ⟨#[]⟩,.int .i64 0,.pointer O] 128):=⟨_,rfl⟩
 have rc:XX (W.heap.size=w.heap.size+1):=by show _=_;rw[hW];simp
 have aL:XX (W.heap[w.heap.size]?=Zb (.cells #[.int .u8 0,.int .i64 0,.string ⟨#[]⟩,.int .i64 0,.pointer O] 128 (0,0))):=by show _=_;rw[hW];exact aE rfl
 have bB:XX (Zc w.heap.size w W):=by show Zc _ _ _;rw[hW];exact(Zm _ w).alloc (Zh _) _
 obtain⟨N,hN⟩:∃N,N=w.heap.size+1:=⟨_,rfl⟩
 have hNa:w.heap.size+1<=N:=by omega
 have Hi:N<=w.heap.size+1:=by omega
 clear hN;go_enter func144,ntmps144;go_wp2_with fail;go_loopg [4,5] (u.size+1) (λg ov iv wr=>Zc N W wr/\N<=wr.heap.size/\∃i acc,1<=i/\i<=u.size/\u.size<i+g/\iv=.int .i64 (i:Zd)/\acc.length<=i/\OB wr N ov acc/\iX u g i acc=R)
 case atStart=>subst hW;exact⟨Zm _ _,by simp;omega,1,[],by omega,by omega,by omega,rfl,by simp,OB.nil _ _,HR.o⟩
 case round=>
  obtain⟨ba,aH,i,acc,aU,dL,RS,rfl,zk,am,hF⟩:=hrel;obtain⟨f,rfl⟩:∃f,gk=f+1:=⟨gk-1,by omega⟩
  have HF:XX (iX u (f+1) i acc=R):=hF;have fd:=tX ba (by omega) aL.o;have qt:=aa fd;have wG:XX (Zc w.heap.size w wr):=bB.o.trans (ba.mono (by omega));have t0:wr.cell? ⟨w.heap.size,0,O⟩=Zb (.int .u8 0):=by simp[Zg,fd]
  have t1:wr.cell? ⟨w.heap.size,1,O⟩=Zb (.int .i64 0):=by simp[Zg,fd]
  have t2:wr.cell? ⟨w.heap.size,2,O⟩=Zb (.string ⟨#[]⟩):=by simp[Zg,fd]
  have t3:wr.cell? ⟨w.heap.size,3,O⟩=Zb (.int .i64 0):=by simp[Zg,fd]
  have t4:wr.cell? ⟨w.heap.size,4,O⟩=Zb (.pointer O):=by simp[Zg,fd]
  have tf:∀o,wr.frozen? ⟨w.heap.size,o,O⟩=Za:=by intro o;simp[Zu,fd]
  clear hF HR fd;by_cases dy:i=u.size
  .have ig:XX (R=([],0)):=by show _=_;rw[<-HF.o,iX,nS (by omega),Zj (by decide)]
   have ai:¬((i:Ze)<(u.size:Ze)):=by omega
   clear dy;go_wp2;have hl:=iw w.heap.size _ _ _ _ _ (gt wr w.heap.size (.int .u8 120) (.int .i64 0) (.string ⟨#[]⟩) (.int .i64 0) (.pointer O)) (py _ _ _ _ _ qt.o);unfold gt at hl;refine Zo (v:=.tuple #[bD 120 0 ⟨#[]⟩ 0 (.pointer O),.int .i64 0]) (by simp[results,results144,bD,Zn,hl]) rfl ?_;exact⟨_,0,rfl,rV (.int .u8 120) (.int .i64 0) (.string ⟨#[]⟩) (.int .i64 0) (.pointer O) wG.o (Zh _),by show vd _ _ _;rw[ig.o];exact⟨rfl,rfl⟩⟩
  .have fX:i<u.size:=by omega
   have jn:=ew fX;clear dy;by_cases h39:gb u i=39
   .have e39:(((u[i]'fX).toNat:Ze)==39)=Zl:=by rw[<-jn,h39];rfl
    have oU:(convert 49 9 u4).run prog wr=.ok (.string ⟨acc.toArray⟩) wr:=ua am;have ig:XX (R=if pz (bs acc)then(acc,i+1)else([],0)):=by show _=_;rw[<-HF.o,iX,Zf (by omega),Zj h39]
    have HO:XX (OB wr N u4 acc):=am;clear h39 jn am;go_wp2_with fail;refine(ajU (bs acc) wr (by rw[eO];omega)).mono ?_;rintro e w1 ⟨rfl,ae⟩;have cV:=tX ae (al qt.o) qt.o;have lh:=aa cV;have aT:XX (Zc w.heap.size w w1):=wG.o.trans (ae.mono (Zd.le_of_lt (al qt.o)));have s0:w1.cell? ⟨w.heap.size,0,O⟩=Zb (.int .u8 0):=by simp[Zg,cV]
    have s1:w1.cell? ⟨w.heap.size,1,O⟩=Zb (.int .i64 0):=by simp[Zg,cV]
    have s2:w1.cell? ⟨w.heap.size,2,O⟩=Zb (.string ⟨#[]⟩):=by simp[Zg,cV]
    have s3:w1.cell? ⟨w.heap.size,3,O⟩=Zb (.int .i64 0):=by simp[Zg,cV]
    have s4:w1.cell? ⟨w.heap.size,4,O⟩=Zb (.pointer O):=by simp[Zg,cV]
    have sf:∀o,w1.frozen? ⟨w.heap.size,o,O⟩=Za:=by intro o;simp[Zu,cV]
    have alV:(convert 49 9 u4).run prog w1=.ok (.string ⟨acc.toArray⟩) w1:=ua (IL HO.o ae);obtain⟨tv,th⟩:∃tv,tv=pz (bs acc):=⟨_,rfl⟩
    rw[<-th]at ig⊢;clear t0 t1 t2 t3 t4 tf cV oU th;cases tv
    .go_wp2;have hl:=iw w.heap.size _ _ _ _ _ (gt w1 w.heap.size (.int .u8 120) (.int .i64 0) (.string ⟨#[]⟩) (.int .i64 0) (.pointer O)) (py _ _ _ _ _ lh.o);unfold gt at hl;refine Zo (v:=.tuple #[bD 120 0 ⟨#[]⟩ 0 (.pointer O),.int .i64 0]) (by simp[results,results144,bD,Zn,hl]) rfl ?_;exact⟨_,0,rfl,rV (.int .u8 120) (.int .i64 0) (.string ⟨#[]⟩) (.int .i64 0) (.pointer O) aT.o (Zh _),by show vd _ _ _;rw[ig.o];exact⟨rfl,rfl⟩⟩
    .go_wp2;have hl:=iw w.heap.size _ _ _ _ _ (gt w1 w.heap.size (.int .u8 114) (.int .i64 0) (.string ⟨acc.toArray⟩) (.int .i64 0) (.pointer O)) (py _ _ _ _ _ lh.o);unfold gt at hl;refine Zo (v:=.tuple #[bD 114 0 ⟨acc.toArray⟩ 0 (.pointer O),.int .i64 ((i:Ze)+1)]) (by simp[results,results144,bD,Zn,hl]) rfl ?_;exact⟨_,i+1,by rfl,rV (.int .u8 114) (.int .i64 0) (.string ⟨acc.toArray⟩) (.int .i64 0) (.pointer O) aT.o (Zh _),by show vd _ _ _;rw[ig.o];exact⟨rfl,rfl⟩⟩
   .have e39:(((u[i]'fX).toNat:Ze)==39)=Za:=by rw[<-jn];exact Zq.2 h39
    by_cases h92:gb u i=92
    .have e92:(((u[i]'fX).toNat:Ze)==92)=Zl:=by rw[<-jn,h92];rfl
     by_cases iC:gb u (i+1)=39\/gb u (i+1)=92
     .have kh:i+1<u.size:=cC (by omega);have ja:XX (iX u f (i+2) (acc++[u[i+1]'kh])=R):=by show _=_;rw[<-HF.o,iX,Zf (by omega),Zf h39,Zj h92,Zj iC,Jg kh]
      have e1:(((i:Ze)+1)==(u.size:Ze))=Za:=Zq.2 (by omega);rw[ew kh]at iC;clear h39 h92 jn HF;rcases iC with iC|iC
      .have e2:(((u[i+1]'kh).toNat:Ze) != 39)=Za:=by rw[iC];rfl
       clear iC;go_wp2_with (at_builtin;refine dz rfl (.tmp 49) (.tmp 53) rfl N _ acc rfl ?h1 _ _ _ [u[i+1]'kh] rfl rfl ?h2 ?h3 ?h4 ?_)
       case h1=>exact am.alloc _
       case h2=>exact cX rfl _ _ rfl
       case h3=>simp;omega
       case h4=>simp;omega
       intro v3 w3 bz aP;have dr:Zc N wr w3:=((Zm N wr).alloc aH _).grown aP (by simp;omega) am.below;have eC:N<=w3.heap.size:=by have:=aP.size;simp at this;omega
       clear aP t0 t1 t2 t3 t4 tf;go_wp2;go_roundg f
       case measure=>omega
       case rel=>exact⟨ba.trans dr,eC,i+2,acc++[u[i+1]'kh],by omega,by omega,by omega,by go_num,by rw[Zr];simp;omega,bz,ja.o⟩
      .have e2:(((u[i+1]'kh).toNat:Ze) != 39)=Zl:=by rw[iC];rfl
       have e3:(((u[i+1]'kh).toNat:Ze) != 92)=Za:=by rw[iC];rfl
       clear iC;go_wp2_with (at_builtin;refine dz rfl (.tmp 49) (.tmp 53) rfl N _ acc rfl ?h1 _ _ _ [u[i+1]'kh] rfl rfl ?h2 ?h3 ?h4 ?_)
       case h1=>exact am.alloc _
       case h2=>exact cX rfl _ _ rfl
       case h3=>simp;omega
       case h4=>simp;omega
       intro v3 w3 bz aP;have dr:Zc N wr w3:=((Zm N wr).alloc aH _).grown aP (by simp;omega) am.below;have eC:N<=w3.heap.size:=by have:=aP.size;simp at this;omega
       clear aP t0 t1 t2 t3 t4 tf;go_wp2;go_roundg f
       case measure=>omega
       case rel=>exact⟨ba.trans dr,eC,i+2,acc++[u[i+1]'kh],by omega,by omega,by omega,by go_num,by rw[Zr];simp;omega,bz,ja.o⟩
     .have ig:XX (R=([],0)):=by show _=_;rw[<-HF.o,iX,Zf (by omega),Zf h39,Zj h92,Zf iC]
      by_cases kh:i+1<u.size
      .have e1:(((i:Ze)+1)==(u.size:Ze))=Za:=Zq.2 (by omega);have e2:(((u[i+1]'kh).toNat:Ze) != 39)=Zl:=by rw[bne_iff_ne,<-ew kh];exact λh=>iC (.inl h)
       have e3:(((u[i+1]'kh).toNat:Ze) != 92)=Zl:=by rw[bne_iff_ne,<-ew kh];exact λh=>iC (.inr h)
       clear h39 h92 jn iC;go_wp2;have hl:=iw w.heap.size _ _ _ _ _ (gt wr w.heap.size (.int .u8 120) (.int .i64 0) (.string ⟨#[]⟩) (.int .i64 0) (.pointer O)) (py _ _ _ _ _ qt.o);unfold gt at hl;refine Zo (v:=.tuple #[bD 120 0 ⟨#[]⟩ 0 (.pointer O),.int .i64 0]) (by simp[results,results144,bD,Zn,hl]) rfl ?_;exact⟨_,0,rfl,rV (.int .u8 120) (.int .i64 0) (.string ⟨#[]⟩) (.int .i64 0) (.pointer O) wG.o (Zh _),by show vd _ _ _;rw[ig.o];exact⟨rfl,rfl⟩⟩
      .have e1:(((i:Ze)+1)==(u.size:Ze))=Zl:=beq_iff_eq.2 (by omega);clear h39 h92 jn iC;go_wp2;have hl:=iw w.heap.size _ _ _ _ _ (gt wr w.heap.size (.int .u8 120) (.int .i64 0) (.string ⟨#[]⟩) (.int .i64 0) (.pointer O)) (py _ _ _ _ _ qt.o);unfold gt at hl;refine Zo (v:=.tuple #[bD 120 0 ⟨#[]⟩ 0 (.pointer O),.int .i64 0]) (by simp[results,results144,bD,Zn,hl]) rfl ?_;exact⟨_,0,rfl,rV (.int .u8 120) (.int .i64 0) (.string ⟨#[]⟩) (.int .i64 0) (.pointer O) wG.o (Zh _),by show vd _ _ _;rw[ig.o];exact⟨rfl,rfl⟩⟩
    .have e92:(((u[i]'fX).toNat:Ze)==92)=Za:=by rw[<-jn];exact Zq.2 h92
     have ja:XX (iX u f (i+1) (acc++[u[i]'fX])=R):=by show _=_;rw[<-HF.o,iX,Zf (by omega),Zf h39,Zf h92,Jg fX]
     clear h39 h92 jn HF;go_wp2_with (at_builtin;refine dz rfl (.tmp 49) (.tmp 53) rfl N _ acc rfl ?h1 _ _ _ [u[i]'fX] rfl rfl ?h2 ?h3 ?h4 ?_)
     case h1=>exact am.alloc _
     case h2=>exact cX rfl _ _ rfl
     case h3=>simp;omega
     case h4=>simp;omega
     intro v3 w3 bz aP;have dr:Zc N wr w3:=((Zm N wr).alloc aH _).grown aP (by simp;omega) am.below;have eC:N<=w3.heap.size:=by have:=aP.size;simp at this;omega
     clear aP t0 t1 t2 t3 t4 tf;go_wp2;go_roundg f
     case measure=>omega
     case rel=>exact⟨ba.trans dr,eC,i+1,acc++[u[i]'fX],by omega,by omega,by omega,by go_num,by rw[Zr];simp;omega,bz,ja.o⟩
end Go.Proofs.YtdlgkgfeoiohiaaGreatDoor
