/- Part 28. -/
import Derived.Test.YtdlgkgfeoiohiaaGreatDoorA27
import Derived.Shelf.Strings.SlTrimAscii
open Bool renaming false -> O,true -> Zn
open ByteArray renaming size_extract -> Zt,mk -> ZC
open Go renaming Calls -> Zg,World -> Zk,asAddr -> Zl,bodyPost_ret -> Zm,Value -> Zq
open Go.Addr renaming add_lit -> Zx
open Go.Calls renaming mono -> Zo
open Go.Ending renaming returned -> ZD
open Go.Lib renaming hasPrefix -> ZB,trimPrefix -> ZE
open Go.RowKit renaming Below -> Zj
open Go.RowKit.Below renaming refl -> Zr
open Go.Value renaming slice -> ZU
open Go.World renaming cell? -> Zy
open List renaming getElem?_drop -> Zz,getElem?_eq_some_iff -> ZA,drop_zero -> ZG,drop_drop -> ZJ,getElem?_of_mem -> ZK,take_append_drop -> ZL,take_of_length_le -> ZM,take_succ_cons -> ZN
open Nat renaming le_refl -> Zp,add_zero -> ZO,lt_or_ge -> ZP
open Option renaming some -> Zd,none -> Zh,map_some -> ZQ
open UInt8 renaming ofNat -> ZH
open UInt8.toNat renaming inj -> ZI
open _root_ renaming Int -> Za,Nat -> Zb,if_neg -> Zc,if_pos -> Ze,List -> Zf,ByteArray -> Zi,beq_eq_false_iff_ne -> Zu,UInt8 -> Zv,absurd -> Zw
namespace Go.Proofs.YtdlgkgfeoiohiaaGreatDoor
set_option linter.unusedVariables false
set_option maxHeartbeats 16000000
set_option maxRecDepth 100000
open Go.RowKit J Go.Proofs.Tryz
variable {u:Zi}{w:Zk}{L S N A J La:Addr}{a n j m:Zb}{k:aj}{v:Zq}{l:Zf Zv}
theorem ahq(t:Zi)(w:Zk):Zg prog 137 #[.string t] w λe w'=>e=.returned (.bool (ea lQ t))/\w=w':=by
 obtain⟨B,hB⟩:∃B,B=ea lQ t:=⟨_,rfl⟩
 have HB:=aa hB;rw[<-hB];clear hB;obtain⟨b1,e1⟩:∃b,(t.toList==[38,38])=b:=⟨_,rfl⟩
 obtain⟨b2,e2⟩:∃b,(t.toList==[124,124])=b:=⟨_,rfl⟩
 obtain⟨b3,e3⟩:∃b,(t.toList==[61,61])=b:=⟨_,rfl⟩
 obtain⟨b4,e4⟩:∃b,(t.toList==[33,61])=b:=⟨_,rfl⟩
 obtain⟨b5,e5⟩:∃b,(t.toList==[60,61])=b:=⟨_,rfl⟩
 obtain⟨b6,e6⟩:∃b,(t.toList==[62,61])=b:=⟨_,rfl⟩
 have HF:XX (B=(b1 || (b2 || (b3 || (b4 || (b5 || b6)))))):=by
  show _=_;have key:∀l:Zf Zv,(t.toList==l)=decide ((⟨l.toArray⟩:Zi)=t):=λl=>by
   by_cases h:t=⟨l.toArray⟩
   .rw[uA h,decide_eq_true h.symm]
   .rw[fZ h,decide_eq_false (λe=>h e.symm)]
  rw[HB.o,<-e1,<-e2,<-e3,<-e4,<-e5,<-e6,key,key,key,key,key,key];simp only[lQ,ea]
  repeat' split
  all_goals simp_all
 clear HB;cases b1
 rotate_left
 .rw[HF.o];go_enter func137,ntmps137;go_wp2;go_ret;exact⟨rfl,rfl⟩
 cases b2
 rotate_left
 .rw[HF.o];go_enter func137,ntmps137;go_wp2;go_ret;exact⟨rfl,rfl⟩
 cases b3
 rotate_left
 .rw[HF.o];go_enter func137,ntmps137;go_wp2;go_ret;exact⟨rfl,rfl⟩
 cases b4
 rotate_left
 .rw[HF.o];go_enter func137,ntmps137;go_wp2;go_ret;exact⟨rfl,rfl⟩
 cases b5
 rotate_left
 .rw[HF.o];go_enter func137,ntmps137;go_wp2;go_ret;exact⟨rfl,rfl⟩
 cases b6
 all_goals
  rw[HF.o];go_enter func137,ntmps137;go_wp2;go_ret;exact⟨rfl,rfl⟩
def IX:Zf Zv:=[46,42,91,93,40,41,123,125,44,58,64,38,124,33,60,62,63]
theorem aiB:∀c:Fin 256,decide (Lib.indexByte IX (ZH c.val)<0)=!ea kY ⟨#[ZH c.val]⟩:=by decide
theorem acH(h:0<u.size):u.extract 0 1=⟨#[u[0]'h]⟩:=by
 have e:=yQ u.data.toList 0 1;rw[Bh]at e;have e2:=I3 u 0 h;rw[e,ZG,show(1:Zb)=0+1 from rfl,e2];rfl
theorem aiC(h:0<u.size):decide (Lib.indexByte IX (u[0]'h)<0)=!ea kY (u.extract 0 1):=by
 rw[acH h];have:=aiB ⟨(u[0]'h).toNat,(u[0]'h).toNat_lt⟩;simpa using this
theorem ahR(u:Zi)(w:Zk)(hs:u.size<=1000)(h0:0<u.size)(n1:eD (gb u 0)=O)(n2:gb u 0≠34)(n3:gb u 0≠39)(n4:gb u 0≠96)(n5:gb u 0≠45)(n6:aK (gb u 0)=O):
 Zg prog 89 #[.string u] w λe w'=>oz u w e w':=by
 have hK:aD u=if 1<u.size/\ea lQ (u.extract 0 2)=Zn then(⟨115,u.extract 0 2,0,Zh⟩,2)
  else if ea kY (u.extract 0 1)=Zn then(⟨115,u.extract 0 1,0,Zh⟩,1)else(lC,0):=by
  rw[aD,n1,Zc (by simp),Zc n2,Zc n3,Zc n4,Zc (by rw[n6];simp[n5])]
 have HS:=aa (aiC h0);have JN:XX (∀W,Zg prog 120 #[.string ⟨#[46,42,91,93,40,41,123,125,44,58,64,38,124,33,60,62,63]⟩,.int .u8 ((u[0]'h0).toNat:Za)] W λe w'=>e=.returned (.int .i64 (Lib.indexByte IX (u[0]'h0)))/\W=w'):=λW=>wl _ _ (u[0]'h0) _ W rfl rfl
 obtain⟨ix,BP⟩:∃ix,ix=Lib.indexByte IX (u[0]'h0):=⟨_,rfl⟩
 rw[<-BP]at HS JN;have k0:(0:Za)<(u.size:Za):=by omega
 obtain⟨L,hL⟩:∃L,L=ea lQ (u.extract 0 2):=⟨_,rfl⟩
 obtain⟨S,hS⟩:∃S,S=ea kY (u.extract 0 1):=⟨_,rfl⟩
 rw[<-hL,<-hS]at hK;rw[<-hS]at HS;have HK:=aa hK;have wN:XX (∀W,Zg prog 137 #[.string (u.extract 0 2)] W λe w'=>e=.returned (.bool L)/\W=w'):=λW=>by rw[hL];exact ahq _ W
 clear hK hL hS BP n1 n2 n3 n4 n5 n6;have HR:XX (∀(kd:Za) (x:Zi) (z:Zb) (k:Za),k≠108->aS k=kd->aD u=(⟨k,x,0,Zh⟩,z)->∃t,ZD (.tuple #[aI kd 0 x 0 .nilIface O,.int .i64 z])=.returned (.tuple #[t,.int .i64 ((aD u).2:Zb)])/\Zj w.heap.size w (w.alloc (.cells #[.int .i64 kd,.int .i64 0,.string x,.int .i64 0,.nilIface,.bool O] 63))/\XX (jT (w.alloc (.cells #[.int .i64 kd,.int .i64 0,.string x,.int .i64 0,.nilIface,.bool O] 63)) (λm=>w.heap.size<=m) (aD u).1 0 t)):=λkd x z k hk e1 e2=>by
  rw[e2,<-e1];exact⟨_,rfl,(Zr _ w).alloc (Zp _) _,jT.plain hk⟩
 unfold oz;by_cases h1:1<u.size
 .have k1:(1:Za)<(u.size:Za):=by omega
  have k2:(2:Za)<=(u.size:Za):=by omega
  cases L
  .go_enter func89,ntmps89;go_wp2_with fail;refine(wN.o _).mono ?_;rintro e w2 ⟨rfl,rfl⟩;go_wp2_with fail;refine(JN.o _).mono ?_;rintro e w2 ⟨rfl,rfl⟩;cases S
   .have HE:XX (aD u=(⟨120,⟨#[]⟩,0,Zh⟩,0)):=by show _=_;rw[HK.o,Zc (by simp),Zc (by simp)];rfl
    have hx:ix<0:=of_decide_eq_true HS.o;go_wp2;have hl:=it w.heap.size _ _ _ _ _ _ _ (aE (W:=w) (o:=.cells #[.int .i64 0,.int .i64 0,.string ⟨#[]⟩,.int .i64 0,.nilIface,.bool O] 63) rfl);refine Zm (v:=.tuple #[aI 0 0 ⟨#[]⟩ 0 .nilIface O,.int .i64 0]) (by simp[results,results89,aI,Zl,hl]) rfl ?_;exact HR.o 0 ⟨#[]⟩ 0 120 (by decide) rfl HE.o
   .have HE:XX (aD u=(⟨115,u.extract 0 1,0,Zh⟩,1)):=by show _=_;rw[HK.o,Zc (by simp),Ze rfl]
    have hx:¬ix<0:=of_decide_eq_false HS.o;go_wp2;have hl:=it w.heap.size _ _ _ _ _ _ _ (aE (W:=w) (o:=.cells #[.int .i64 2,.int .i64 0,.string (u.extract 0 1),.int .i64 0,.nilIface,.bool O] 63) rfl);refine Zm (v:=.tuple #[aI 2 0 (u.extract 0 1) 0 .nilIface O,.int .i64 1]) (by simp[results,results89,aI,Zl,hl]) rfl ?_;exact HR.o 2 (u.extract 0 1) 1 115 (by decide) rfl HE.o
  .have HE:XX (aD u=(⟨115,u.extract 0 2,0,Zh⟩,2)):=by show _=_;rw[HK.o,Ze ⟨h1,rfl⟩]
   go_enter func89,ntmps89;go_wp2_with fail;refine(wN.o _).mono ?_;rintro e w2 ⟨rfl,rfl⟩;go_wp2;have hl:=it w.heap.size _ _ _ _ _ _ _ (aE (W:=w) (o:=.cells #[.int .i64 2,.int .i64 0,.string (u.extract 0 2),.int .i64 0,.nilIface,.bool O] 63) rfl);refine Zm (v:=.tuple #[aI 2 0 (u.extract 0 2) 0 .nilIface O,.int .i64 2]) (by simp[results,results89,aI,Zl,hl]) rfl ?_;exact HR.o 2 (u.extract 0 2) 2 115 (by decide) rfl HE.o
 .have k1:¬((1:Za)<(u.size:Za)):=by omega
  go_enter func89,ntmps89;go_wp2_with fail;refine(JN.o _).mono ?_;rintro e w2 ⟨rfl,rfl⟩;cases S
  .have HE:XX (aD u=(⟨120,⟨#[]⟩,0,Zh⟩,0)):=by show _=_;rw[HK.o,Zc (λh=>h1 h.1),Zc (by simp)];rfl
   have hx:ix<0:=of_decide_eq_true HS.o;go_wp2;have hl:=it w.heap.size _ _ _ _ _ _ _ (aE (W:=w) (o:=.cells #[.int .i64 0,.int .i64 0,.string ⟨#[]⟩,.int .i64 0,.nilIface,.bool O] 63) rfl);refine Zm (v:=.tuple #[aI 0 0 ⟨#[]⟩ 0 .nilIface O,.int .i64 0]) (by simp[results,results89,aI,Zl,hl]) rfl ?_;exact HR.o 0 ⟨#[]⟩ 0 120 (by decide) rfl HE.o
  .have HE:XX (aD u=(⟨115,u.extract 0 1,0,Zh⟩,1)):=by show _=_;rw[HK.o,Zc (λh=>h1 h.1),Ze rfl]
   have hx:¬ix<0:=of_decide_eq_false HS.o;go_wp2;have hl:=it w.heap.size _ _ _ _ _ _ _ (aE (W:=w) (o:=.cells #[.int .i64 2,.int .i64 0,.string (u.extract 0 1),.int .i64 0,.nilIface,.bool O] 63) rfl);refine Zm (v:=.tuple #[aI 2 0 (u.extract 0 1) 0 .nilIface O,.int .i64 1]) (by simp[results,results89,aI,Zl,hl]) rfl ?_;exact HR.o 2 (u.extract 0 1) 1 115 (by decide) rfl HE.o
theorem agX(u:Zi)(w:Zk)(hs:u.size<=1000)(hq:gb u 0=34)(h:fw w L S N A J La):
 Zg prog 135 #[.string u] w λe w'=>∃s z er,e=.returned (.tuple #[.string s,.int .i64 (z:Zb),er])/\Zj w.heap.size w w'/\XX ((0<=(aw u 0).2.2/\∃p,er=aG J p)\/((aw u 0).2.2<0/\er=.nilIface/\s=⟨(aw u 0).1.toArray⟩/\z=(aw u 0).2.1)):=by
 obtain⟨R,hR⟩:∃R,R=aw u 0:=⟨_,rfl⟩
 have HQ:XX (∀W,PS W w.heap.size u 0 0 O J->kE W->Zg prog 35 #[.pointer (Zd ⟨w.heap.size,0,Zh⟩)] W λe w'=>e=.returned (.tuple #[.string ⟨R.1.toArray⟩,fK J R.2])/\ab w.heap.size W w'/\PS w' w.heap.size u R.2.1 0 O J):=λW hp hT=>by rw[hR];exact FA _ u 0 0 O W hp hT h.size hs hq
 rw[<-hR];have HP:XX (PS (w.alloc (nJ u 0 0 O)) w.heap.size u 0 0 O J):=⟨aE rfl,cj h.json,by have:=al h.json;omega⟩
 have dF:XX (Zj w.heap.size w (w.alloc (nJ u 0 0 O))):=(Zr _ w).alloc (Zp _) _;have HT:XX (kE (w.alloc (nJ u 0 0 O))):=(h.env.below dF.o).1;have HC:XX (pk u 0=34):=(iT (by omega)).2 hq;clear h hR hq;go_enter func135,ntmps135;go_wp2_with fail;refine(eT w.heap.size u 0 0 O _ HP.o (Zb.zero_le _) hs).mono ?_;rintro e w1 ⟨rfl,n1,rfl⟩;rw[HC.o];go_wp2_with fail;refine(HQ.o _ (HP.o.drewN _) HT.o).mono ?_;rintro e w2 ⟨rfl,ah,bb⟩;have aY:XX (Zj w.heap.size w w2):=dF.o.trans ((((ab.refl _ _).drewN _).trans ah).below (Zp _) dF.o.size);obtain⟨t,k,bd,pV⟩:∃t k bd,R=(t,k,bd):=⟨_,_,_,rfl⟩
 subst pV;obtain⟨y0,y1,y2,y3,yf⟩:=iq bb.1;clear bb ah y0 y2 y3 yf;simp only at y1⊢;by_cases kK:bd<0
 .rw[FP kK];have ju:=aa kK;clear kK;go_wp2_with fail;go_quiet (fail);go_wp2;go_ret3;refine⟨_,k,_,rfl,⟨aY.o.os,aY.o.tape,aY.o.output,aY.o.size,aY.o.block⟩,?_⟩;exact Or.inr ⟨ju.o,rfl,rfl,rfl⟩
 .rw[FO kK,aG];have ju:=aa kK;clear kK;go_wp2_with fail;go_ret3;refine⟨⟨#[]⟩,0,_,rfl,aY.o,?_⟩;exact Or.inl ⟨by have:=ju.o;omega,_,rfl⟩
theorem ahK(u:Zi)(w:Zk)(hs:u.size<=1000)(hq:gb u 0=34)(h:fw w L S N A J La):
 Zg prog 86 #[.string u] w λe w'=>oz u w e w':=by
 have hK:aD u=if(aw u 0).2.2<0 then(⟨113,⟨(aw u 0).1.toArray⟩,0,Zh⟩,(aw u 0).2.1)else(lC,0):=by
  rw[aD,Zc (by rw[hq];decide),Ze hq]
 have HK:=aa hK;have dF:XX (Zj w.heap.size w (w.alloc ir)):=(Zr _ w).alloc (Zp _) _;have HQ:=aa (agX u (w.alloc ir) hs hq (h.below dF.o));clear h hK;unfold oz;unfold ir at HQ dF;go_enter func86,ntmps86;go_wp2_with fail;refine Zo HQ.o ?_;rintro e w1 ⟨s,z,er,rfl,ae,hr⟩;have aT:=aa ae;have fd:w1.heap[w.heap.size]?=Zd (.cells #[.int .i64 0,.int .i64 0,.string ⟨#[]⟩,.int .i64 0,.nilIface,.bool O] 63 (0,0)):=(ae.block _ (by simp)).trans (aE rfl);have aL:=aa fd;have bB:XX (Zj w.heap.size w w1):=dF.o.trans (ae.mono dF.o.size);obtain⟨s0,s1,s2,s3,s4,s5,sf⟩:=rR fd;clear fd ae;rcases hr.o with⟨h1,p,rfl⟩|⟨h1,rfl,rfl,rfl⟩
 .have HE:XX (aD u=(⟨120,⟨#[]⟩,0,Zh⟩,0)):=by show _=_;rw[HK.o,Zc (by omega)];rfl
  clear hr h1;rw[aG];go_wp2;have hl:=it w.heap.size _ _ _ _ _ _ _ (mW (.int .i64 0) (.int .i64 0) (.string ⟨#[]⟩) (.int .i64 0) .nilIface (.bool O) aL.o);unfold jr at hl;refine Zm (v:=.tuple #[aI 0 0 ⟨#[]⟩ 0 .nilIface O,.int .i64 0]) (by simp[results,results86,aI,Zl,hl]) rfl ?_;exact tC bB.o HE.o (.inl rfl) rfl
 .have HE:XX (aD u=(⟨113,⟨(aw u 0).1.toArray⟩,0,Zh⟩,(aw u 0).2.1)):=by show _=_;rw[HK.o,Ze h1]
  obtain⟨X,hX⟩:∃X:Zi,X=⟨(aw u 0).1.toArray⟩:=⟨_,rfl⟩
  obtain⟨z,hz⟩:∃z,z=(aw u 0).2.1:=⟨_,rfl⟩
  rw[<-hX,<-hz]at HE⊢;clear hr h1 hX hz;go_wp2;have hl:=it w.heap.size _ _ _ _ _ _ _ (mW (.int .i64 4) (.int .i64 0) (.string X) (.int .i64 0) .nilIface (.bool O) aL.o);unfold jr at hl;refine Zm (v:=.tuple #[aI 4 0 X 0 .nilIface O,.int .i64 z]) (by simp[results,results86,aI,Zl,hl]) rfl ?_;exact tC bB.o HE.o (.inl rfl) rfl
theorem KE{u:Zi}{fr:Zb}:∀m,fr+m<=aA u fr->m<=7->Lib.decFrom 0 ((u.data.toList.drop fr).take m)=Zd (wv u fr m).toNat
 |0,_,_=>by simp[wv,Lib.decFrom]
 |m+1,h,h7=>by
  have ih:=KE (u:=u) (fr:=fr) m (by omega) (by omega);have hd:=IW (s:=u) (k:=fr) (i:=fr+m) (by omega) (by omega);have ai:=zT hd;have BF:48<=gb u (fr+m)/\gb u (fr+m)<=57:=by simpa[aK]using hd
  have hb:=FSz (u:=u) (fr:=fr) m (by omega) (by omega);rw[ew ai]at BF;have RO:(u.data.toList.drop fr)[m]?=Zd (u[fr+m]'ai):=by
   rw[Zz,Zf.getElem?_eq_getElem (by simpa using ai)];rfl
  have EN:Lib.digitVal (u[fr+m]'ai)=Zd ((u[fr+m]'ai).toNat-48):=by
   unfold Lib.digitVal;simp;omega
  rw[Lib.decFrom_take _ m 0 _ _ _ ih RO EN,wv,ew ai]
  congr 1
  omega
theorem QB(u:Zi)(n:Zb):(u.extract 0 n).data.toList=u.data.toList.take n:=by
 have e:=yQ u.data.toList 0 n;rw[Bh]at e;rw[e,nn,ZG]
theorem Ix(h:0<u.size):u.data.toList=(u[0]'h)::u.data.toList.drop 1:=by
 have e:=I3 u 0 h;have e2:=ZL 1 u.data.toList;rw[show(1:Zb)=0+1 from rfl,e]at e2;exact e2.symm
theorem P8(h:Lib.decFrom 0 l=Zd n)(hl:0<l.length):Lib.decNat l=Zd n:=by
 cases l with
 |nil=>simp at hl
 |cons a l=>simpa[Lib.decNat]using h
theorem aa4(h0:0<u.size)(ey:gb u 0=45)(h1:1<=m)(h6:m<=6)(hr:1+m<=aA u 1)(hs:1+m<=u.size):Lib.atoi (u.extract 0 (1+m)).data.toList=Zd (- wv u 1 m):=by
 have hd:=KE (u:=u) (fr:=1) m hr (by omega);have hb:=FSz (u:=u) (fr:=1) m hr (by omega);have hl:0<((u.data.toList.drop 1).take m).length:=by simp;omega
 have Ef:u[0]'h0=45:=by
  rw[ew h0]at ey;exact ZI (by simpa using(show(u[0]'h0).toNat=45 by omega))
 rw[QB,Ix h0,Ef,show 1+m=m+1 from by omega,ZN,Lib.atoi];simp only[beq_self_eq_true,if_true];rw[P8 hd hl];simp only[ZQ]
 congr 1
 omega
theorem aa5(h0:0<u.size)(h1:1<=m)(h6:m<=6)(hr:m<=aA u 0)(hs:m<=u.size):Lib.atoi (u.extract 0 m).data.toList=Zd (wv u 0 m):=by
 have hd:=KE (u:=u) (fr:=0) m (by omega) (by omega);have hb:=FSz (u:=u) (fr:=0) m (by omega) (by omega);have ls:=IW (s:=u) (k:=0) (i:=0) (by omega) (by omega);have EM:48<=gb u 0/\gb u 0<=57:=by simpa[aK]using ls
 rw[ew h0]at EM;rw[ZG]at hd;have hl:0<(u.data.toList.take m).length:=by simp;omega
 rw[QB];have hx:u.data.toList.take m=(u[0]'h0)::(u.data.toList.drop 1).take (m-1):=by
  rw[Ix h0,show m=(m-1)+1 from by omega,ZN];simp
 have n45:((u[0]'h0)==45)=O:=by rw[Zu];intro e;rw[e]at EM;simp at EM
 have n43:((u[0]'h0)==43)=O:=by rw[Zu];intro e;rw[e]at EM;simp at EM
 have RD:=P8 hd hl;rw[hx]at RD⊢;rw[Lib.atoi,n45,n43];simp only[Bool.false_eq_true,if_false];rw[RD];simp only[ZQ]
 congr 1
 omega
def xh(u:Zi):Zb:=if gb u 0=45 then 1 else 0
theorem ajR(h0:0<u.size):ZE u.data.toList [45]=u.data.toList.drop (xh u):=by
 have hb:=ew h0;by_cases ey:gb u 0=45
 .have Ef:u[0]'h0=45:=ZI (by rw[hb]at ey;simpa using(show(u[0]'h0).toNat=45 by omega));have hp:ZB u.data.toList [45]=Zn:=by rw[Ix h0,Ef];simp[ZB]
  rw[ZE,hp,xh,Ze ey];rfl
 .have Ef:u[0]'h0≠45:=λe=>ey (by rw[hb,e];rfl)
  have hp:ZB u.data.toList [45]=O:=by
   rw[Ix h0];simp[ZB,Zf.isPrefixOf];exact λe=>Ef e.symm
  rw[ZE,hp,xh,Zc ey];simp
theorem ahY(u:Zi)(w:Zk)(h0:0<u.size):Zg prog 133 #[.string u,.string ⟨#[45]⟩] w λe w'=>e=.returned (.string (u.extract (xh u) u.size))/\w=w':=by
 refine(Tryz.strings_TrimPrefix _ _ w).mono ?_;rintro e w' ⟨rfl,rfl⟩;refine⟨?_,rfl⟩;rw[show(ZC #[45]).data.toList=[45]from rfl,ajR h0];have e:=yQ u.data.toList (xh u) u.size;rw[Bh]at e;rw[e,ZM (by simp)];rfl
theorem aj4(h0:0<u.size)(hq:gb u 0=45\/aK (gb u 0)=Zn):∃(fr m:Zb) (V:Za),fr=xh u/\m=aA u fr-fr/\fr<=aA u fr/\aA u fr<=u.size/\fr<=1 /\
 ((m=0\/6<m\/(1<m/\gb u fr=48))->aD u=(lC,0))/\(¬(m=0\/6<m\/(1<m/\gb u fr=48))->aD u=(⟨110,⟨#[]⟩,V,Zh⟩,fr+m)/\Lib.atoi (u.extract 0 (fr+m)).data.toList=Zd V):=by
 have gV:eD (gb u 0)=O/\gb u 0≠34/\gb u 0≠39/\gb u 0≠96:=by
  rcases hq with h|h
  .rw[h];decide
  .have:48<=gb u 0/\gb u 0<=57:=by simpa[aK]using h
   refine⟨?_,by omega,by omega,by omega⟩;simp[eD];omega
 have hK:aD u=if(ia u).2=0 then(lC,0)else(⟨110,⟨#[]⟩,(ia u).1,Zh⟩,(ia u).2):=by
  rw[aD,gV.1,Zc (by simp),Zc gV.2.1,Zc gV.2.2.1,Zc gV.2.2.2,Ze hq]
 by_cases ey:gb u 0=45
 .have e:ia u=if aA u 1=1\/6<aA u 1-1\/(1<aA u 1-1/\gb u 1=48)then(0,0)else(- wv u 1 (aA u 1-1),aA u 1):=by rw[ia];simp only[ey,if_true]
  have hl:=qh u 1;have hz:=nK u 1 (by omega);refine⟨1,aA u 1-1,- wv u 1 (aA u 1-1),by rw[xh,Ze ey],rfl,hl,hz,Zp _,λhc=>?_,λhc=>?_⟩
  .rw[Ze (by omega)]at e;rw[hK,e,Ze rfl]
  .rw[Zc (by omega)]at e;rw[hK,e,Zc (by simp only;omega)];exact⟨by simp only;rw[show 1+(aA u 1-1)=aA u 1 from by omega],aa4 h0 ey (by omega) (by omega) (by omega) (by omega)⟩
 .have e:ia u=if aA u 0=0\/6<aA u 0-0\/(1<aA u 0-0/\gb u 0=48)then(0,0)else(wv u 0 (aA u 0),aA u 0):=by rw[ia];simp only[ey,if_false]
  have hz:=nK u 0 (by omega);refine⟨0,aA u 0-0,wv u 0 (aA u 0),by rw[xh,Zc ey],rfl,by omega,hz,by omega,λhc=>?_,λhc=>?_⟩
  .rw[Ze (by omega)]at e;rw[hK,e,Ze rfl]
  .rw[Zc (by omega)]at e;rw[hK,e,Zc (by simp only;omega)];exact⟨by simp,by simpa using aa5 h0 (by omega) (by omega) (Zp _) hz⟩
theorem T0(s:Zi)(n:Za)(w:Zk)(hl:s.size<=18)(h:Lib.atoi s.data.toList=Zd n):Zg prog 134 #[.string s] w λe w'=>e=.returned (.tuple #[.int .i64 n,.nilIface])/\Zj w.heap.size w w':=by
 refine(Tryz.strconv_Atoi s n hl h w).mono ?_;rintro e w' ⟨rfl,t,rfl⟩;exact⟨rfl,Lib.bytesWorld_below _ _ _⟩
theorem ah8(u:Zi)(w:Zk)(hs:u.size<=1000)(h0:0<u.size)(hq:gb u 0=45\/aK (gb u 0)=Zn):
 Zg prog 85 #[.string u] w λe w'=>oz u w e w':=by
 obtain⟨fr,m,V,Hx,hm,aW,fh,bC,dh,ek⟩:=aj4 h0 hq;have gu:=aa dh;have oR:=aa ek;obtain⟨X,hX⟩:∃X,X=u.extract fr u.size:=⟨_,rfl⟩
 have zj:X.size=u.size-fr:=by rw[hX,Zt];omega
 have yG:XX (∀j (h:j<X.size),((X[j]'h).toNat:Za)=gb u (fr+j)):=λj h=>by
  subst hX;rw[ew (by omega)];simp[Zi.getElem_extract]
 have HTP:XX (∀W,Zg prog 133 #[.string u,.string ⟨#[45]⟩] W λe w'=>e=.returned (.string X)/\W=w'):=λW=>by rw[hX,Hx];exact ahY u W h0
 have HM:=aa hm;clear dh ek hX Hx hq hm;unfold oz;go_enter func85,ntmps85;go_wp2_with fail;refine(HTP.o _).mono ?_;rintro e w1 ⟨rfl,rfl⟩;go_wp2_with fail;obtain⟨W,hW⟩:∃W,W=w.alloc (.cells #[.int .i64 0,.int .i64 0,.string ⟨#[]⟩,.int .i64 0,.nilIface,.bool O] 63):=⟨_,rfl⟩
 go_loopg [5] (X.size+1) (λg iv wr=>wr=W/\∃j:Zb,j<=X.size/\g=X.size+1-j/\aA u (fr+j)=aA u fr/\iv=.int .i64 j)
 case atStart=>exact⟨hW.symm,0,by omega,by omega,rfl,rfl⟩
 case round=>
  obtain⟨rfl,j,hj,hg,qN,rfl⟩:=hrel;have HG:=aa hg;have ms:=aa qN;clear hg qN;by_cases hd:aK (gb u (fr+j))=Zn
  .have fY:j<X.size:=by have:=zT hd;omega
   have k1:(j:Za)<(X.size:Za):=by omega
   obtain⟨c,hc⟩:∃c,c=((X[j]'fY).toNat:Za):=⟨_,rfl⟩
   have HC:XX (((X[j]'fY).toNat:Za)=c):=hc.symm;have fW:0<=c:=by omega
   have cU:c<=255:=by have:=(X[j]'fY).toNat_lt;omega
   have HD:XX (aK c=Zn):=by show _=_;rw[hc,yG.o j fY];exact hd
   have yw:XX (aA u (fr+(j+1))=aA u fr):=by show _=_;rw[<-ms.o];exact(uG hd).symm
   clear hd hc;go_wp2_with fail;rw[HC.o];refine(wj c _ fW cU).mono ?_;rintro e w2 ⟨rfl,rfl⟩;rw[HD.o];go_wp2;go_roundg (X.size+1-(j+1))
   case measure=>rw[HG.o];omega
   case rel=>exact⟨hW.symm,j+1,by omega,rfl,yw.o,by go_num⟩
  .have hmj:m=j:=by
    have h1:=FE (s:=u) (k:=fr+j) (by simpa using hd);rw[HM.o,<-ms.o,h1];omega
   subst hmj;have dy:¬((m:Za)<(X.size:Za))\/∃h:m<X.size,aK ((X[m]'h).toNat:Za)=O:=by
    rcases ZP m X.size with h|h
    .exact .inr ⟨h,by rw[yG.o m h];simpa using hd⟩
    .left;omega
   clear hd HG ms HM;rcases dy with dy|⟨fY,hd⟩
   rotate_left
   focus
    have k1:(m:Za)<(X.size:Za):=by omega
    obtain⟨c,hc⟩:∃c,c=((X[m]'fY).toNat:Za):=⟨_,rfl⟩
    have HC:XX (((X[m]'fY).toNat:Za)=c):=hc.symm;have fW:0<=c:=by omega
    have cU:c<=255:=by have:=(X[m]'fY).toNat_lt;omega
    rw[<-hc]at hd;clear hc;go_wp2_with fail;rw[HC.o];refine(wj c _ fW cU).mono ?_;rintro e w2 ⟨rfl,rfl⟩;rw[hd];clear hd
   all_goals
    rcases(show m=0\/(m≠0/\6<m)\/(1<m/\m<=6)\/m=1 from by omega)with hl|hl|hl|hl
    .have HE:XX (aD u=(⟨120,⟨#[]⟩,0,Zh⟩,0)):=gu.o (.inl hl);subst hl;go_wp2;have hl:=it w.heap.size _ _ _ _ _ _ _ (aE (W:=w) (o:=.cells #[.int .i64 0,.int .i64 0,.string ⟨#[]⟩,.int .i64 0,.nilIface,.bool O] 63) rfl);refine Zm (v:=.tuple #[aI 0 0 ⟨#[]⟩ 0 .nilIface O,.int .i64 0]) ?_ rfl ?_
     .simp[results,results85,aI,Zl,hl]
     .rw[HE.o];exact⟨_,rfl,(Zr _ w).alloc (Zp _) _,jT.plain (by decide)⟩
    .have HE:XX (aD u=(⟨120,⟨#[]⟩,0,Zh⟩,0)):=gu.o (.inr (.inl hl.2));have e0:((m:Za)==0)=O:=Zu.2 (by omega);have e6:(6:Za)<(m:Za):=by omega
     go_wp2;have hl:=it w.heap.size _ _ _ _ _ _ _ (aE (W:=w) (o:=.cells #[.int .i64 0,.int .i64 0,.string ⟨#[]⟩,.int .i64 0,.nilIface,.bool O] 63) rfl);refine Zm (v:=.tuple #[aI 0 0 ⟨#[]⟩ 0 .nilIface O,.int .i64 0]) ?_ rfl ?_
     .simp[results,results85,aI,Zl,hl]
     .rw[HE.o];exact⟨_,rfl,(Zr _ w).alloc (Zp _) _,jT.plain (by decide)⟩
    .have e0:((m:Za)==0)=O:=Zu.2 (by omega);have e6:¬((6:Za)<(m:Za)):=by omega
     have e1:(1:Za)<(m:Za):=by omega
     have es:0<X.size:=by omega
     have amI:(0:Za)<(X.size:Za):=by omega
     by_cases dA:((X[0]'es).toNat:Za)=48
     .have HE:XX (aD u=(⟨120,⟨#[]⟩,0,Zh⟩,0)):=gu.o (.inr (.inr ⟨hl.1,by have:=yG.o 0 es;rw[ZO]at this;rw[<-this];exact dA⟩));have ac8:(((X[0]'es).toNat:Za)==48)=Zn:=by rw[dA];rfl
      clear dA;go_wp2;have hl:=it w.heap.size _ _ _ _ _ _ _ (aE (W:=w) (o:=.cells #[.int .i64 0,.int .i64 0,.string ⟨#[]⟩,.int .i64 0,.nilIface,.bool O] 63) rfl);refine Zm (v:=.tuple #[aI 0 0 ⟨#[]⟩ 0 .nilIface O,.int .i64 0]) ?_ rfl ?_
      .simp[results,results85,aI,Zl,hl]
      .rw[HE.o];exact⟨_,rfl,(Zr _ w).alloc (Zp _) _,jT.plain (by decide)⟩
     .have ac8:(((X[0]'es).toNat:Za)==48)=O:=Zu.2 dA;have h49:gb u fr≠48:=by have:=yG.o 0 es;rw[ZO]at this;rw[<-this];exact dA
      obtain⟨Dg,cQ⟩:=oR.o (by omega);have HE:=aa Dg;have pE:XX (∀W,Zg prog 134 #[.string (u.extract 0 (fr+m))] W λe w'=>e=.returned (.tuple #[.int .i64 V,.nilIface])/\Zj W.heap.size W w'):=λW=>T0 _ V W (by rw[Zt];omega) cQ
      clear Dg cQ;have z1:((u.size-fr:Zb):Za)=(u.size:Za)-(fr:Za):=by omega
      have z2:(fr:Za)+(m:Za)<=(u.size:Za):=by omega
      go_wp2_with fail;rw[show u.size-(u.size-fr)+m=fr+m from by omega];refine(pE.o _).mono ?_;rintro e w2 ⟨rfl,ah⟩;have fd:w2.heap[w.heap.size]?=Zd (.cells #[.int .i64 0,.int .i64 0,.string ⟨#[]⟩,.int .i64 0,.nilIface,.bool O] 63 (0,0)):=(ah.block _ (by simp)).trans (aE rfl);have aL:=aa fd;have bB:XX (Zj w.heap.size w w2):=((Zr _ w).alloc (Zp _) _).trans (ah.mono (by simp));obtain⟨s0,s1,s2,s3,s4,s5,sf⟩:=rR fd;clear fd ah;go_wp2;have hl:=it w.heap.size _ _ _ _ _ _ _ (mW (.int .i64 7) (.int .i64 0) (.string ⟨#[]⟩) (.int .i64 V) .nilIface (.bool O) aL.o);unfold jr at hl;refine Zm (v:=.tuple #[aI 7 0 ⟨#[]⟩ V .nilIface O,.int .i64 ((fr+m:Zb):Za)]) ?_ rfl ?_
      .simp[results,results85,aI,Zl,hl];omega
      .exact tC bB.o HE.o (.inl rfl) rfl
    .subst hl;obtain⟨Dg,cQ⟩:=oR.o (by omega);have HE:=aa Dg;have pE:XX (∀W,Zg prog 134 #[.string (u.extract 0 (fr+1))] W λe w'=>e=.returned (.tuple #[.int .i64 V,.nilIface])/\Zj W.heap.size W w'):=λW=>T0 _ V W (by rw[Zt];omega) cQ
     clear Dg cQ;have z1:((u.size-fr:Zb):Za)=(u.size:Za)-(fr:Za):=by omega
     have z2:(fr:Za)+1<=(u.size:Za):=by omega
     go_wp2_with fail;rw[show u.size-(u.size-fr)+1=fr+1 from by omega];refine(pE.o _).mono ?_;rintro e w2 ⟨rfl,ah⟩;have fd:w2.heap[w.heap.size]?=Zd (.cells #[.int .i64 0,.int .i64 0,.string ⟨#[]⟩,.int .i64 0,.nilIface,.bool O] 63 (0,0)):=(ah.block _ (by simp)).trans (aE rfl);have aL:=aa fd;have bB:XX (Zj w.heap.size w w2):=((Zr _ w).alloc (Zp _) _).trans (ah.mono (by simp));obtain⟨s0,s1,s2,s3,s4,s5,sf⟩:=rR fd;clear fd ah;go_wp2;have hl:=it w.heap.size _ _ _ _ _ _ _ (mW (.int .i64 7) (.int .i64 0) (.string ⟨#[]⟩) (.int .i64 V) .nilIface (.bool O) aL.o);unfold jr at hl;refine Zm (v:=.tuple #[aI 7 0 ⟨#[]⟩ V .nilIface O,.int .i64 ((fr+1:Zb):Za)]) ?_ rfl ?_
     .simp[results,results85,aI,Zl,hl];omega
     .exact tC bB.o HE.o (.inl rfl) rfl
theorem MN:∀(f k j:Zb),oh u f k=Zd j->k<=j/\j<u.size/\gb u j=96/\∀i,k<=i->i<j->gb u i≠96
 |0,k,j,h=>by simp[oh]at h
 |f+1,k,j,h=>by
  rw[oh]at h;by_cases h1:gb u k<0
  .rw[Ze h1]at h;cases h
  .rw[Zc h1]at h;by_cases h2:gb u k=96
   .rw[Ze h2]at h;injection h with h;subst h;exact⟨Zp _,cC (by omega),h2,λi a b=>by omega⟩
   .rw[Zc h2]at h;obtain⟨a,b,c,d⟩:=MN f (k+1) j h;exact⟨by omega,b,c,λi hi hj=>by
     by_cases e:i=k
     .rw[e];exact h2
     .exact d i (by omega) hj⟩
theorem Tn:∀(f k:Zb),u.size<f+k->oh u f k=Zh->∀i,k<=i->gb u i≠96
 |0,k,hf,h,i,hi=>by rw[nS (by omega)];decide
 |f+1,k,hf,h,i,hi=>by
  rw[oh]at h;by_cases h1:gb u k<0
  .have hk:u.size<=k:=by
    rcases ZP k u.size with h'|h'
    .rw[ew h']at h1;omega
    .exact h'
   rw[nS (by omega)];decide
  .rw[Zc h1]at h;by_cases h2:gb u k=96
   .rw[Ze h2]at h;cases h
   .rw[Zc h2]at h;by_cases e:i=k
    .rw[e];exact h2
    .exact Tn f (k+1) (by omega) h i (by omega)
theorem G5(u:Zi)(a:Zb):u.extract a u.size=bs (u.data.toList.drop a):=by
 have e:=yQ u.data.toList a u.size;rw[Bh]at e;rw[e,ZM (by simp)]
theorem Tq{x:Zv}(h:∀c∈l,∃i,∃hi:i<u.size,c=u[i]'hi/\gb u i≠(x.toNat:Za)):∀c∈l,c≠x:=by
 intro c hc e;obtain⟨i,hi,h1,h2⟩:=h c hc;apply h2
 rw[ew hi,<-h1,e]
theorem af7(h:nF u=Zh):Lib.cut (u.data.toList.drop 1) [96]=(u.data.toList.drop 1,[],O):=by
 refine P7 (Tq (u:=u) (λc hc=>?_));obtain⟨i,hi⟩:=ZK hc;rw[Zz]at hi;obtain⟨ai,he⟩:=ZA.1 hi;exact⟨1+i,by simpa using ai,he.symm,Tn _ _ (by omega) h (1+i) (by omega)⟩
theorem af8(h:nF u=Zd j):(Lib.cut (u.data.toList.drop 1) [96]).1=(u.data.toList.drop 1).take (j-1)/\(Lib.cut (u.data.toList.drop 1) [96]).2.2=Zn:=by
 obtain⟨a,b,c,d⟩:=MN _ _ _ h;have hj:u[j]'b=96:=ZI (by rw[ew b]at c;simpa using(show(u[j]'b).toNat=96 by omega));have e:u.data.toList.drop 1=(u.data.toList.drop 1).take (j-1)++96::u.data.toList.drop (j+1):=by
  conv=>lhs;rw[<-ZL (j-1) (u.data.toList.drop 1)]
  congr 1
  rw[ZJ,show 1+(j-1)=j from by omega,Zf.drop_eq_getElem_cons (by simpa using b),<-hj];rfl
 have hc:=P6 (l:=(u.data.toList.drop 1).take (j-1)) (r:=u.data.toList.drop (j+1)) (x:=96) (Tq (u:=u) (λc hc=>by
  obtain⟨i,hi⟩:=ZK hc;have ej:i<j-1:=by
   have:=(ZA.1 hi).1;rw[Zf.length_take]at this;omega
  rw[Zf.getElem?_take_of_lt ej,Zz]at hi;obtain⟨ai,he⟩:=ZA.1 hi;exact⟨1+i,by simpa using ai,he.symm,d (1+i) (by omega) (by omega)⟩))
 rw[<-e]at hc;rw[hc];exact⟨rfl,rfl⟩
theorem acI(u:Zi)(j:Zb):bs ((u.data.toList.drop 1).take (j-1))=u.extract 1 j:=by
 have e:=yQ u.data.toList 1 j;rw[Bh]at e;rw[e,Zf.drop_take]
theorem ag8(u:Zi)(w:Zk)(hs:u.size<=1000)(hE:dS w):Zg prog 110 #[.string (u.extract 1 u.size),.string ⟨#[96]⟩] w λe w'=>∃x y f,e=.returned (.tuple #[.string x,.string y,.bool f])/\(∃n,w'=w.drewN n)/\XX (match nF u with|none=>f=O|some j=>f=Zn/\x=u.extract 1 j/\1<=j/\j<u.size):=by
 obtain⟨_,⟨m,h2⟩,_⟩:=hE;refine(Tryz.strings_Cut _ ⟨#[96]⟩ m w (by rw[Zt];omega) h2).mono ?_;rintro e w' ⟨rfl,h⟩;refine⟨_,_,_,rfl,h,?_⟩;show match nF u with|none=>_|some j=>_
 rw[G5,nn,show(ZC #[96]).data.toList=[96]from rfl];cases hl:nF u with
 |none=>simp only;rw[af7 hl]
 |some j=>
  obtain⟨a,b,c,d⟩:=MN _ _ _ hl;obtain⟨e1,e2⟩:=af8 hl;simp only;rw[e1,e2];exact⟨rfl,acI u j,a,b⟩
theorem afR(b:Addr)(w:Zk):Zg prog 21 #[.nilIface,.iface 279 (.pointer (Zd b))] w λe w'=>e=.returned (.bool O)/\w'=w:=by
 have hn:=run_eql_iface_nil_left (P:=prog) w 279 (.pointer (Zd b)) underlying29;go_enter func21,ntmps21;go_wp2;go_ret;exact⟨rfl,rfl⟩
theorem fw.drewN(h:fw w L S N A J La)(n:Zb):fw (w.drewN n) L S N A J La:=h.below ⟨rfl,rfl,rfl,Zp _,λ_ _=>rfl⟩
theorem ahp(u:Zi)(w:Zk)(hs:u.size<=1000)(h0:0<u.size)(hq:gb u 0=96)(h:fw w L S N A J La):
 Zg prog 88 #[.string u] w λe w'=>oz u w e w':=by
 have hK:aD u=match nF u with|none=>(lC,0)|some j=>qP u j:=by
  rw[aD,Zc (by rw[hq];decide),Zc (by omega),Zc (by omega),Ze hq];cases nF u <;> rfl
 have HK:=aa hK;have dF:XX (Zj w.heap.size w (w.alloc ir)):=(Zr _ w).alloc (Zp _) _;have jG:=aa (h.below dF.o);have HC:=aa (ag8 u (w.alloc ir) hs jG.o.env);have k1:(1:Za)<=(u.size:Za):=by omega
 clear h hK hq;unfold oz;unfold ir at HC dF jG;go_enter func88,ntmps88;go_wp2_with fail;refine Zo HC.o ?_;rintro e w1 ⟨x,y,f,rfl,⟨n1,rfl⟩,hr⟩;cases hl:nF u with
 |none=>
  have Ca:=hr.o;rw[hl]at Ca;have hf:f=O:=Ca;subst hf;have HE:XX (aD u=(⟨120,⟨#[]⟩,0,Zh⟩,0)):=by show _=_;rw[HK.o,hl];rfl
  clear hr Ca hl;go_wp2;have hl:=it w.heap.size _ _ _ _ _ _ _ (mW (w:=(w.alloc (.cells #[.int .i64 0,.int .i64 0,.string ⟨#[]⟩,.int .i64 0,.nilIface,.bool O] 63)).drewN n1) (.int .i64 0) (.int .i64 0) (.string ⟨#[]⟩) (.int .i64 0) .nilIface (.bool O) (aE (W:=w) rfl));unfold jr at hl;refine Zm (v:=.tuple #[aI 0 0 ⟨#[]⟩ 0 .nilIface O,.int .i64 0]) (by simp[results,results88,aI,Zl,hl]) rfl ?_;exact tC (w1:=(w.alloc (.cells #[.int .i64 0,.int .i64 0,.string ⟨#[]⟩,.int .i64 0,.nilIface,.bool O] 63)).drewN n1) ⟨dF.o.os,dF.o.tape,dF.o.output,dF.o.size,dF.o.block⟩ HE.o (.inl rfl) rfl
 |some j=>
  have Ca:=hr.o;rw[hl]at Ca;obtain⟨hf,hx,l8,nu⟩:=Ca;subst hf;subst hx;have Gf:XX (aD u=qP u j):=by show _=_;rw[HK.o,hl]
  have HT:=aa (ais (u.extract 1 j) ((w.alloc (.cells #[.int .i64 0,.int .i64 0,.string ⟨#[]⟩,.int .i64 0,.nilIface,.bool O] 63)).drewN n1) (by rw[Zt];unfold maxLen;omega) (jG.o.drewN n1));have hz:(u.extract 1 j).size=j-1:=by rw[Zt];omega
  obtain⟨I,hI⟩:∃I,I=u.extract 1 j:=⟨_,rfl⟩
  rw[<-hI]at HT hz⊢;have HI:=aa hI;clear hr hl hI;go_wp2_with fail;refine Zo HT.o ?_;rintro e w2 ⟨v,er,rfl,ah,ht⟩;have fj:=aa ((jG.o.drewN n1).below ah);have fd:w2.heap[w.heap.size]?=Zd (.cells #[.int .i64 0,.int .i64 0,.string ⟨#[]⟩,.int .i64 0,.nilIface,.bool O] 63 (0,0)):=(ah.block _ (by simp)).trans (aE rfl);have aL:=aa fd;have bB:XX (Zj w.heap.size w w2):=Zj.trans (b:=(w.alloc (.cells #[.int .i64 0,.int .i64 0,.string ⟨#[]⟩,.int .i64 0,.nilIface,.bool O] 63)).drewN n1) ⟨dF.o.os,dF.o.tape,dF.o.output,dF.o.size,dF.o.block⟩ (ah.mono dF.o.size);have vS:=ht.o;have cLa:=fj.o.sents.cLa;clear fd ht HT;rcases vS with⟨q1,q2,q3,rfl⟩|⟨q1,q2,rfl⟩|⟨q1,q2,q3,rfl,rfl⟩|⟨q1,q2,rfl,vv,q3,q4,q5,q6,kk,lg,q7⟩
  .have HE:XX (aD u=(⟨120,⟨#[]⟩,0,Zh⟩,0)):=by show _=_;rw[Gf.o,qP,<-HI.o,Zc (by omega),Zc (by omega)];rfl
   have qW:=aa (Cm L La w2 fj.o.sents.ne.2.2.2.2.1 fj.o.sents.bL fj.o.sents.bLa);obtain⟨s0,s1,s2,s3,s4,s5,sf⟩:=rR aL.o;clear q1 q2 q3;go_wp2_with fail;refine Zo qW.o ?_;rintro e w3 ⟨rfl,rfl⟩;go_wp2;have hl:=it w.heap.size _ _ _ _ _ _ _ (mW (.int .i64 0) (.int .i64 0) (.string ⟨#[]⟩) (.int .i64 0) .nilIface (.bool O) aL.o);unfold jr at hl;refine Zm (v:=.tuple #[aI 0 0 ⟨#[]⟩ 0 .nilIface O,.int .i64 0]) (by simp[results,results88,aI,Zl,hl]) rfl ?_;exact tC bB.o HE.o (.inl rfl) rfl
  .have HE:XX (aD u=(⟨120,⟨#[]⟩,0,Zh⟩,0)):=by show _=_;rw[Gf.o,qP,<-HI.o,Zc (by omega),Zc (by omega)];rfl
   obtain⟨E,hE⟩:∃E,E=aG J (eG I).2.1:=⟨_,rfl⟩
   have qW:XX (Zg prog 21 #[E,.iface 279 (.pointer (Zd La))] w2 λe w'=>e=.returned (.bool O)/\Zj w2.heap.size w2 w'):=by rw[hE];exact Iu _ J La w2 fj.o.sents.ne.2.2.2.2.2.2.2.2.2.2.2.2.2.2 fj.o.sents.bJ fj.o.sents.bLa
   obtain⟨te,ve,He⟩:∃te ve,E=.iface te ve:=⟨_,_,hE⟩
   rw[<-hE];subst He;clear q1 q2 hE;go_wp2_with fail;refine Zo qW.o ?_;rintro e w3 ⟨rfl,ap⟩;have O4:=aa ((ap.block _ (al aL.o)).trans aL.o);have Wo:XX (Zj w.heap.size w w3):=bB.o.trans (ap.mono bB.o.size);obtain⟨s0,s1,s2,s3,s4,s5,sf⟩:=rR O4.o;clear ap;go_wp2;have hl:=it w.heap.size _ _ _ _ _ _ _ (mW (.int .i64 0) (.int .i64 0) (.string ⟨#[]⟩) (.int .i64 0) .nilIface (.bool O) O4.o);unfold jr at hl;refine Zm (v:=.tuple #[aI 0 0 ⟨#[]⟩ 0 .nilIface O,.int .i64 0]) (by simp[results,results88,aI,Zl,hl]) rfl ?_;exact tC Wo.o HE.o (.inl rfl) rfl
  .have HE:XX (aD u=(⟨108,⟨#[]⟩,0,Zh⟩,j+1)):=by show _=_;rw[Gf.o,qP,<-HI.o,Ze q1]
   have qW:=aa (MF La w2);obtain⟨s0,s1,s2,s3,s4,s5,sf⟩:=rR aL.o;clear q1 q2 q3;go_wp2_with fail;refine Zo qW.o ?_;rintro e w3 ⟨rfl,rfl⟩;go_wp2;have hl:=it w.heap.size _ _ _ _ _ _ _ (mW (.int .i64 6) (.int .i64 0) (.string ⟨#[]⟩) (.int .i64 0) .nilIface (.bool Zn) aL.o);unfold jr at hl;refine Zm (v:=.tuple #[aI 6 0 ⟨#[]⟩ 0 .nilIface Zn,.int .i64 ((j+1:Zb):Za)]) ?_ rfl ?_
   .simp[results,results88,aI,Zl,hl];omega
   .exact tC bB.o HE.o (.inl rfl) rfl
  .have HE:XX (aD u=(⟨108,⟨#[]⟩,0,Zd vv⟩,j+1)):=by
    show _=_;rw[Gf.o,qP,<-HI.o,Zc (by omega),Ze q1,q7]
   have qW:=aa (afR La w2);have p8:=db.isif 12 q6;have yn:=aa p8;have nh:XX (PV w2 (λm=>w.heap.size<m) ⟨108,⟨#[]⟩,0,Zd vv⟩ v):=⟨q4,q5,db.keep 12 q6 (λi hi _=>⟨rfl,by simp at hi;omega⟩)⟩
   obtain⟨s0,s1,s2,s3,s4,s5,sf⟩:=rR aL.o;clear q1 q2 q3 q4 q5 q6 q7;rcases p8 with rfl|⟨tv,xv,rfl⟩
   .go_wp2_with fail;refine Zo qW.o ?_;rintro e w3 ⟨rfl,rfl⟩;go_wp2;have hl:=it w.heap.size _ _ _ _ _ _ _ (mW (.int .i64 6) (.int .i64 0) (.string ⟨#[]⟩) (.int .i64 0) .nilIface (.bool O) aL.o);unfold jr at hl;refine Zm (v:=.tuple #[aI 6 0 ⟨#[]⟩ 0 .nilIface O,.int .i64 ((j+1:Zb):Za)]) ?_ rfl ?_
    .simp[results,results88,aI,Zl,hl];omega
    .exact tC bB.o HE.o yn.o nh.o
   .go_wp2_with fail;refine Zo qW.o ?_;rintro e w3 ⟨rfl,rfl⟩;go_wp2;have hl:=it w.heap.size _ _ _ _ _ _ _ (mW (.int .i64 6) (.int .i64 0) (.string ⟨#[]⟩) (.int .i64 0) (.iface tv xv) (.bool O) aL.o);unfold jr at hl;refine Zm (v:=.tuple #[aI 6 0 ⟨#[]⟩ 0 (.iface tv xv) O,.int .i64 ((j+1:Zb):Za)]) ?_ rfl ?_
    .simp[results,results88,aI,Zl,hl];omega
    .exact tC bB.o HE.o yn.o nh.o
def A6(u:Zi)(w:Zk)(e:Ending)(w':Zk):Prop:=
 ∃t,∃z:Zb,e=.returned (.tuple #[t,.int .i64 z])/\(z=(aD u).2\/(aD u).1.kind=120)/\Zj w.heap.size w w'/\XX (jT w' (λm=>w.heap.size<=m) (aD u).1 0 t)
def Gy:Prop:=∀(u:Zi) (w:Zk),u.size<=1000->0<u.size->gb u 0=39->kE w->Zg prog 87 #[.string u] w λe w'=>A6 u w e w'
theorem jT.shape{A:Zb->Prop}{at':Za}{t:Zq}(h:jT w A k at' t):∃v,t=aI (aS k.kind) at' k.txt k.num v (eL k)/\eI v/\PV w A k v:=h
theorem ahd(hraw:Gy)(u:Zi)(w:Zk)(hs:u.size<=1000)(h0:0<u.size)(h:fw w L S N A J La):
 Zg prog 52 #[.string u] w λe w'=>A6 u w e w':=by
 have dF:XX (Zj w.heap.size w (w.alloc ir)):=(Zr _ w).alloc (Zp _) _;have hS:=h.below dF.o;have fO:=ew h0;obtain⟨c,hc⟩:∃c,c=((u[0]'h0).toNat:Za):=⟨_,rfl⟩
 have HC:XX (((u[0]'h0).toNat:Za)=c):=hc.symm;have fW:0<=c:=by omega
 have cU:c<=255:=by have:=(u[0]'h0).toNat_lt;omega
 rw[<-hc]at fO;have k0:(0:Za)<(u.size:Za):=by omega
 have en:(u.toList==[])=O:=fZ (l:=[]) (λe=>by rw[e]at h0;exact Zw h0 (by decide));have HF:XX ((eD c=Zn->Zg prog 83 #[.string u] (w.alloc ir) λe w'=>oz u (w.alloc ir) e w') /\
  ((c=45\/aK c=Zn)->Zg prog 85 #[.string u] (w.alloc ir) λe w'=>oz u (w.alloc ir) e w') /\
  (c=34->Zg prog 86 #[.string u] (w.alloc ir) λe w'=>oz u (w.alloc ir) e w') /\
  (c=39->Zg prog 87 #[.string u] (w.alloc ir) λe w'=>A6 u (w.alloc ir) e w') /\
  (c=96->Zg prog 88 #[.string u] (w.alloc ir) λe w'=>oz u (w.alloc ir) e w') /\
  (eD c=O->aK c=O->c≠45->c≠34->c≠39->c≠96->Zg prog 89 #[.string u] (w.alloc ir) λe w'=>oz u (w.alloc ir) e w')):=by
  refine⟨λe=>aia u _ hs h0 (by rw[fO];exact e),λe=>ah8 u _ hs h0 (by rw[fO];exact e),λe=>ahK u _ hs (by rw[fO];exact e) hS,λe=>hraw u _ hs h0 (by rw[fO];exact e) hS.env.1,λe=>ahp u _ hs h0 (by rw[fO];exact e) hS,λe1 e2 e3 e4 e5 e6=>ahR u _ hs h0 (by rw[fO];exact e1) (by rw[fO];exact e4) (by rw[fO];exact e5) (by rw[fO];exact e6) (by rw[fO];exact e3) (by rw[fO];exact e2)⟩
 have HE:XX (∀w1 t,∀z:Zb,(z=(aD u).2\/(aD u).1.kind=120)->Zj (w.alloc ir).heap.size (w.alloc ir) w1->jT w1 (λm=>(w.alloc ir).heap.size<=m) (aD u).1 0 t->∃v,eI v/\t=aI (aS (aD u).1.kind) 0 (aD u).1.txt (aD u).1.num v (eL (aD u).1)/\XX (w1.heap[w.heap.size]?=Zd (.cells #[.int .i64 0,.int .i64 0,.string ⟨#[]⟩,.int .i64 0,.nilIface,.bool O] 63 (0,0)))/\XX (∃t,∃z2:Zb,ZD (.tuple #[aI (aS (aD u).1.kind) 0 (aD u).1.txt (aD u).1.num v (eL (aD u).1),.int .i64 z])=.returned (.tuple #[t,.int .i64 z2])/\(z2=(aD u).2\/(aD u).1.kind=120)/\Zj w.heap.size w (jr w1 w.heap.size (.int .i64 (aS (aD u).1.kind)) (.int .i64 0) (.string (aD u).1.txt) (.int .i64 (aD u).1.num) v (.bool (eL (aD u).1)))/\XX (jT (jr w1 w.heap.size (.int .i64 (aS (aD u).1.kind)) (.int .i64 0) (.string (aD u).1.txt) (.int .i64 (aD u).1.num) v (.bool (eL (aD u).1))) (λm=>w.heap.size<=m) (aD u).1 0 t))):=λw1 t z hz hb ht=>by
  obtain⟨v,e1,e2,e3⟩:=ht;obtain⟨t2,q1,q2,q3⟩:=tC (u:=u) (K:=(aD u).1) (z:=(aD u).2) (dF.o.trans (hb.mono dF.o.size)) rfl e2 (e3.keep (λi hi _=>⟨rfl,by simp at hi;omega⟩));have q4:aI (aS (aD u).1.kind) 0 (aD u).1.txt (aD u).1.num v (eL (aD u).1)=t2:=by simpa using q1
  rw[<-q4]at q3;exact⟨v,e2,e1,(hb.block _ (by simp)).trans (aE rfl),_,z,rfl,hz,q2,q3⟩
 obtain⟨K,z,hK⟩:∃K z,aD u=(K,z):=⟨_,_,rfl⟩
 unfold oz A6 at HF;unfold A6;rw[hK]at HF HE⊢;simp only at HF HE⊢;unfold ir at HF dF HE;clear h hS fO hc hK;rcases(show eD c=Zn\/(eD c=O/\aK c=Zn)\/(eD c=O/\aK c=O/\c=45)\/(eD c=O/\aK c=O/\c=34)\/(eD c=O/\aK c=O/\c=39)\/(eD c=O/\aK c=O/\c=96)\/(eD c=O/\aK c=O/\c≠45/\c≠34/\c≠39/\c≠96)from by
  cases eD c <;> cases aK c <;> simp <;> omega)with q|q|q|q|q|q|q
 focus
  have HG:=aa (HF.o.1 q);go_enter func52,ntmps52;go_wp2_with fail;rw[HC.o];refine(xN _ _ fW cU).mono ?_;rintro e w2 ⟨rfl,rfl⟩;rw[q];go_wp2_with fail;refine Zo HG.o ?_;rintro e w1 ⟨t,rfl,ae,ht⟩;obtain⟨v,hv,rfl,aL,d6⟩:=HE.o w1 t z (.inl rfl) ae ht.o;clear HF HE HG ae ht
 rotate_left
 focus
  have HG:=aa (HF.o.2.1 (.inr q.2));go_enter func52,ntmps52;go_wp2_with fail;rw[HC.o];refine(xN _ _ fW cU).mono ?_;rintro e w2 ⟨rfl,rfl⟩;rw[q.1];go_wp2_with fail;refine(wj _ _ fW cU).mono ?_;rintro e w2 ⟨rfl,rfl⟩;rw[q.2];go_wp2_with fail;refine Zo HG.o ?_;rintro e w1 ⟨t,rfl,ae,ht⟩;obtain⟨v,hv,rfl,aL,d6⟩:=HE.o w1 t z (.inl rfl) ae ht.o;clear HF HE HG ae ht
 rotate_left
 focus
  obtain⟨q1,q2,rfl⟩:=q;have HG:=aa (HF.o.2.1 (.inl rfl));go_enter func52,ntmps52;go_wp2_with fail;rw[HC.o];refine(xN _ _ fW cU).mono ?_;rintro e w2 ⟨rfl,rfl⟩;rw[q1];go_wp2_with fail;refine(wj _ _ fW cU).mono ?_;rintro e w2 ⟨rfl,rfl⟩;rw[q2];go_wp2_with fail;refine Zo HG.o ?_;rintro e w1 ⟨t,rfl,ae,ht⟩;obtain⟨v,hv,rfl,aL,d6⟩:=HE.o w1 t z (.inl rfl) ae ht.o;clear HF HE HG ae ht
 rotate_left
 focus
  obtain⟨q1,q2,rfl⟩:=q;have HG:=aa (HF.o.2.2.1 rfl);go_enter func52,ntmps52;go_wp2_with fail;rw[HC.o];refine(xN _ _ fW cU).mono ?_;rintro e w2 ⟨rfl,rfl⟩;rw[q1];go_wp2_with fail;refine(wj _ _ fW cU).mono ?_;rintro e w2 ⟨rfl,rfl⟩;rw[q2];go_wp2_with fail;refine Zo HG.o ?_;rintro e w1 ⟨t,rfl,ae,ht⟩;obtain⟨v,hv,rfl,aL,d6⟩:=HE.o w1 t z (.inl rfl) ae ht.o;clear HF HE HG ae ht
 rotate_left
 focus
  obtain⟨q1,q2,rfl⟩:=q;have HG:=aa (HF.o.2.2.2.1 rfl);go_enter func52,ntmps52;go_wp2_with fail;rw[HC.o];refine(xN _ _ fW cU).mono ?_;rintro e w2 ⟨rfl,rfl⟩;rw[q1];go_wp2_with fail;refine(wj _ _ fW cU).mono ?_;rintro e w2 ⟨rfl,rfl⟩;rw[q2];go_wp2_with fail;refine Zo HG.o ?_;rintro e w1 ⟨t,z1,rfl,ee,ae,ht⟩;obtain⟨v,hv,rfl,aL,d6⟩:=HE.o w1 t z1 ee ae ht.o;clear HF HE HG ae ht ee
 rotate_left
 focus
  obtain⟨q1,q2,rfl⟩:=q;have HG:=aa (HF.o.2.2.2.2.1 rfl);go_enter func52,ntmps52;go_wp2_with fail;rw[HC.o];refine(xN _ _ fW cU).mono ?_;rintro e w2 ⟨rfl,rfl⟩;rw[q1];go_wp2_with fail;refine(wj _ _ fW cU).mono ?_;rintro e w2 ⟨rfl,rfl⟩;rw[q2];go_wp2_with fail;refine Zo HG.o ?_;rintro e w1 ⟨t,rfl,ae,ht⟩;obtain⟨v,hv,rfl,aL,d6⟩:=HE.o w1 t z (.inl rfl) ae ht.o;clear HF HE HG ae ht
 rotate_left
 focus
  obtain⟨q1,q2,q3,q4,q5,q6⟩:=q;have m1:(c==45)=O:=Zu.2 q3;have m2:(c==34)=O:=Zu.2 q4;have m3:(c==39)=O:=Zu.2 q5;have m4:(c==96)=O:=Zu.2 q6;have HG:=aa (HF.o.2.2.2.2.2 q1 q2 q3 q4 q5 q6);go_enter func52,ntmps52;go_wp2_with fail;rw[HC.o];refine(xN _ _ fW cU).mono ?_;rintro e w2 ⟨rfl,rfl⟩;rw[q1];go_wp2_with fail;refine(wj _ _ fW cU).mono ?_;rintro e w2 ⟨rfl,rfl⟩;rw[q2];go_wp2_with fail;refine Zo HG.o ?_;rintro e w1 ⟨t,rfl,ae,ht⟩;obtain⟨v,hv,rfl,aL,d6⟩:=HE.o w1 t z (.inl rfl) ae ht.o;clear HF HE HG ae ht
 rotate_left
 all_goals
  obtain⟨s0,s1,s2,s3,s4,s5,sf⟩:=rR aL.o;rw[aI];rcases hv with rfl|⟨tv,xv,rfl⟩
  .go_wp2;have hl:=it w.heap.size _ _ _ _ _ _ _ (mW (.int .i64 (aS K.kind)) (.int .i64 0) (.string K.txt) (.int .i64 K.num) .nilIface (.bool (eL K)) aL.o);unfold jr at hl
   first
   |exact Zm (v:=.tuple #[aI (aS K.kind) 0 K.txt K.num .nilIface (eL K),.int .i64 z]) (by simp[results,results52,aI,Zl,hl]) rfl d6.o
   |exact Zm (v:=.tuple #[aI (aS K.kind) 0 K.txt K.num .nilIface (eL K),.int .i64 z1]) (by simp[results,results52,aI,Zl,hl]) rfl d6.o
  .go_wp2;have hl:=it w.heap.size _ _ _ _ _ _ _ (mW (.int .i64 (aS K.kind)) (.int .i64 0) (.string K.txt) (.int .i64 K.num) (.iface tv xv) (.bool (eL K)) aL.o);unfold jr at hl
   first
   |exact Zm (v:=.tuple #[aI (aS K.kind) 0 K.txt K.num (.iface tv xv) (eL K),.int .i64 z]) (by simp[results,results52,aI,Zl,hl]) rfl d6.o
   |exact Zm (v:=.tuple #[aI (aS K.kind) 0 K.txt K.num (.iface tv xv) (eL K),.int .i64 z1]) (by simp[results,results52,aI,Zl,hl]) rfl d6.o
theorem ajD(h:(aD u).2≠0):aS (aD u).1.kind≠0/\aS (aD u).1.kind≠1:=by
 have x:((lC,0):aj×Zb).2=0:=rfl;have k1:aS 119≠0/\aS 119≠1:=by decide
 have k2:aS 113≠0/\aS 113≠1:=by decide
 have k3:aS 114≠0/\aS 114≠1:=by decide
 have k4:aS 108≠0/\aS 108≠1:=by decide
 have k5:aS 110≠0/\aS 110≠1:=by decide
 have k6:aS 115≠0/\aS 115≠1:=by decide
 rw[aD]at h⊢;by_cases h1:eD (gb u 0)=Zn
 .rw[Ze h1];exact k1
 rw[Zc h1]at h⊢;by_cases h2:gb u 0=34
 .rw[Ze h2]at h⊢;by_cases h':(aw u 0).2.2<0
  .rw[Ze h'];exact k2
  .rw[Zc h']at h;exact Zw x h
 rw[Zc h2]at h⊢;by_cases h3:gb u 0=39
 .rw[Ze h3]at h⊢;by_cases h':(oL u).2=0
  .rw[Ze h']at h;exact Zw x h
  .rw[Zc h'];exact k3
 rw[Zc h3]at h⊢;by_cases h4:gb u 0=96
 .rw[Ze h4]at h⊢;cases hl:nF u with
  |none=>rw[hl]at h;exact Zw x h
  |some j=>
   rw[hl]at h;simp only at h⊢;unfold qP at h⊢;by_cases h6:(eG (u.extract 1 j)).2.2=6
   .rw[Ze h6];exact k4
   .rw[Zc h6]at h⊢;by_cases h0:(eG (u.extract 1 j)).2.2=0
    .rw[Ze h0]at h⊢;cases hp:cZ 12 (u.extract 1 j) 0 O with
     |ok r=>exact k4
     |error e=>rw[hp]at h;exact Zw x h
    .rw[Zc h0]at h;exact Zw x h
 rw[Zc h4]at h⊢;by_cases h5:gb u 0=45\/aK (gb u 0)=Zn
 .rw[Ze h5]at h⊢;by_cases h':(ia u).2=0
  .rw[Ze h']at h;exact Zw x h
  .rw[Zc h'];exact k5
 rw[Zc h5]at h⊢;by_cases h6:1<u.size/\ea lQ (u.extract 0 2)=Zn
 .rw[Ze h6];exact k6
 rw[Zc h6]at h⊢;by_cases h7:ea kY (u.extract 0 1)=Zn
 .rw[Ze h7];exact k6
 .rw[Zc h7]at h;exact Zw x h
def kp(k:aj)(a:Zb)(v:Zq):Zf Zq:=[.int .i64 (aS k.kind),.int .i64 a,.string k.txt,.int .i64 k.num,v,.bool (eL k)]
def nQ(w:Zk)(A:Zb->Prop):Zf (aj×Zb)->Zf Zq->Prop
 |[],xs=>xs=[]
 |x::l,xs=>∃v ys,xs=kp x.1 x.2 v++ys/\(eI v/\PV w A x.1 v)/\nQ w A l ys
theorem nQ.keep{w':Zk}{A B:Zb->Prop}(hk:∀i,A i->i<w.heap.size->w'.heap[i]?=w.heap[i]?/\B i):∀{l:Zf (aj×Zb)} {xs:Zf Zq},nQ w A l xs->nQ w' B l xs
 |[],xs,h=>h
 |x::l,xs,h=>by
  obtain⟨q,ys,h1,h2,h3⟩:=h;exact⟨q,ys,h1,⟨h2.1,h2.2.keep hk⟩,nQ.keep hk h3⟩
theorem nQ.snoc{A:Zb->Prop}(hq:eI v/\PV w A k v):∀{l:Zf (aj×Zb)} {xs:Zf Zq},nQ w A l xs->nQ w A (l++[(k,a)]) (xs++kp k a v)
 |[],xs,h=>by have h:xs=[]:=h;subst h;exact⟨v,[],by simp,hq,rfl⟩
 |x::l,xs,h=>by
  obtain⟨q',ys,h1,h2,h3⟩:=h;exact⟨q',ys++kp k a v,by rw[h1,Zf.append_assoc],h2,nQ.snoc hq h3⟩
theorem nQ.get{A:Zb->Prop}:∀{l:Zf (aj×Zb)} {xs:Zf Zq} {i:Zb} {k:aj} {a:Zb},nQ w A l xs->l[i]?=Zd (k,a) ->
 ∃v,(eI v/\PV w A k v)/\∀j,j<6->xs[i*6+j]?=(kp k a v)[j]?
 |[],xs,i,k,a,h,hi=>by simp at hi
 |x::l,xs,i,k,a,h,hi=>by
  obtain⟨q',ys,h1,h2,h3⟩:=h;cases i with
  |zero=>
   simp at hi;subst hi;refine⟨q',h2,λj hj=>?_⟩;rw[h1,Zf.getElem?_append_left (by simp[kp];omega)];simp
  |succ i=>
   simp at hi;obtain⟨q,hq,hc⟩:=nQ.get h3 hi;refine⟨q,hq,λj hj=>?_⟩;rw[h1,Zf.getElem?_append_right (by simp[kp];omega),<-hc j hj]
   congr 1
   simp[kp];omega
def A0(w:Zk)(N:Zb)(A:Zb->Prop)(v:Zq)(l:Zf (aj×Zb)):Prop:=∃xs,w.ownsRow N 63 6 v l.length xs/\nQ w A l xs
theorem afs:(prog.info? 63).map (λi=>(i.zero,i.size,i.bytes))=Zd (Zd (aI 0 0 ⟨#[]⟩ 0 .nilIface O),6,64):=by kernel_rfl
theorem agS(k:aj)(a:Zb)(hv:eI v):∀u∈kp k a v,u.oneCell'=Zn:=by
 intro u hu;simp only[kp,Zf.mem_cons,Zf.not_mem_nil,or_false]at hu;rcases hu with rfl|rfl|rfl|rfl|rfl|rfl <;> first|rfl|exact hv.one
theorem Pp{ops:Array Oper}{rest:Zf Oper}{o:Oper}{a:Act}{Q:Exit->Act->Zk->Prop}(hgd:o.guard=Zh)(s x:Operand)
 (ho:o.op=.call { callee:=.builtin .append,args:=#[s,x],argTypes:=#[55,55] })
 (N:Zb) (v:Zq) (n:Zb) (xs:Zf Zq) (hs:a.eval s=v) (am:w.ownsRow N 63 6 v n xs) (ad:Addr) (c:Zb) (k:aj) (at':Zb) (q:Zq) (hq:eI q) (hx:a.eval x=.slice (Zd ad) 1 c)
 (hnews:∀j u,(kp k at' q)[j]?=Zd u->w.cell? (ad.add j)=Zd u) (hl:n<=100000) (hbase:N<=w.heap.size) (H:Zb) (hH:w.heap.size=H)
 (h:∀g cap w',w'.ownsRow N 63 6 (.slice (Zd ⟨g,0,Zh⟩) (n+1) cap) (n+1) (xs++kp k at' q)->w.grownBy w' v.ownBlock->(v.ownBlock=Zd g\/g=H)->g<w'.heap.size->wpList prog ops Q rest (a.put o.dst (.slice (Zd ⟨g,0,Zh⟩) (n+1) cap)) w'):wpList prog ops Q (o::rest) a w:=by
 obtain⟨i0,hi,ip,ee,dP⟩:=info_parts afs;exact wpList_append_lies _ hgd s x 55 ho N 63 i0 _ 6 64 underlying55 hi ip ee dP rfl (by decide) v n xs hs am ad 1 c (kp k at' q) hx rfl hnews (agS _ _ hq) (by omega) (by unfold maxLen;omega) (by omega) hbase H hH h
theorem Uh{W:Zk}{t:TypeId}(h:W.heap.size=n):
 ∀j u,(kp k a v)[j]?=Zd u->(W.alloc (.cells #[.int .i64 (aS k.kind),.int .i64 a,.string k.txt,.int .i64 k.num,v,.bool (eL k)] t)).cell? ((⟨n,0,Zh⟩:Addr).add j)=Zd u:=by
 have hh:(W.alloc (.cells #[.int .i64 (aS k.kind),.int .i64 a,.string k.txt,.int .i64 k.num,v,.bool (eL k)] t)).heap[n]?=Zd (.cells #[.int .i64 (aS k.kind),.int .i64 a,.string k.txt,.int .i64 k.num,v,.bool (eL k)] t (0,0)):=aE h;intro j u hj
 match j,hj with
 |0,hj=>simp[kp]at hj;subst hj;simp[Zx,Zy,hh]
 |1,hj=>simp[kp]at hj;subst hj;simp[Zx,Zy,hh]
 |2,hj=>simp[kp]at hj;subst hj;simp[Zx,Zy,hh]
 |3,hj=>simp[kp]at hj;subst hj;simp[Zx,Zy,hh]
 |4,hj=>simp[kp]at hj;subst hj;simp[Zx,Zy,hh]
 |5,hj=>simp[kp]at hj;subst hj;simp[Zx,Zy,hh]
 |j+6,hj=>simp[kp]at hj
theorem Ue{N g cap M:Zb}{w2 w3:Zk}{l:Zf (aj×Zb)}{xs:Zf Zq}{q:Zq}
 (hT:nQ w (λm=>N<=m/\v.ownBlock≠Zd m) l xs) (ai:∀b,v.ownBlock=Zd b->b<M) (hb:∀m,m<w.heap.size->w2.heap[m]?=w.heap[m]?) (hs:w.heap.size<=w2.heap.size)
 (hq:eI q/\PV w2 (λm=>M<=m) k q) (hNM:N<=M) (an:w2.grownBy w3 v.ownBlock) (hg:v.ownBlock=Zd g\/w2.heap.size<=g):
 nQ w3 (λm=>N<=m/\(ZU (Zd ⟨g,0,Zh⟩) n cap).ownBlock≠Zd m) (l++[(k,a)]) (xs++kp k a q):=by
 have key:∀m,N<=m->v.ownBlock≠Zd m->m<w2.heap.size->w3.heap[m]?=w2.heap[m]?/\(N<=m/\(ZU (Zd ⟨g,0,Zh⟩) n cap).ownBlock≠Zd m):=by
  intro m h1 h2 h3;refine⟨an.block m h3 (λe=>h2 e.symm),h1,?_⟩;intro e;have e:g=m:=by simpa[Zq.ownBlock]using e
  subst e;rcases hg with h|h
  .exact h2 h
  .omega
 refine nQ.snoc ⟨hq.1,hq.2.keep ?_⟩ (hT.keep ?_)
 .intro m hm ho;exact key m (by omega) (λe=>by have:=ai m e;omega) ho
 .intro m ⟨h1,h2⟩ hm;obtain⟨r1,r2⟩:=key m h1 h2 (by omega);exact⟨r1.trans (hb m hm),r2⟩
theorem PE{c:Zv}:([9,10,13,32]:Zf Zv).contains c=kT (c.toNat:Za):=by
 have:∀n:Fin 256,([9,10,13,32]:Zf Zv).contains (ZH n.val)=kT (n.val:Za):=by decide
 have h:=this ⟨c.toNat,c.toNat_lt⟩;simpa using h
theorem aiL(h1:a<=j)(h2:j<ak u a):kT (gb u j)=Zn:=by
 cases h:kT (gb u j)with
 |true=>rfl
 |false=>
  exfalso
  have key:∀d,a+d<=j->ak u (a+d)=ak u a:=by
   intro d;induction d with
   |zero=>intro _;rfl
   |succ d ih=>
    intro hd;have e:=ih (by omega);cases hb:kT (gb u (a+d))with
    |true=>rw[<-e,Ak hb];rfl
    |false=>have:=uH hb;omega
  have e:=key (j-a) (by omega);rw[show a+(j-a)=j from by omega,uH h]at e;omega
theorem ajS(ha:a<=u.size):Lib.trimLeftS (u.data.toList.drop a) [9,10,13,32]=u.data.toList.drop (ak u a):=by
 have h1:=fJ u a;have h2:=iH u a ha;rw[Lib.trimLeftS_drop (u.data.toList.drop a) _ (ak u a-a) (by simp;omega) ?_ ?_,ZJ,show a+(ak u a-a)=ak u a from by omega]
 .intro j b hj hb;rw[Zz]at hb;obtain⟨ai,he⟩:=ZA.1 hb;have L6:a+j<u.size:=by simpa using ai
  have:=aiL (u:=u) (a:=a) (j:=a+j) (by omega) (by omega);rw[ew L6]at this;rw[PE,<-he];exact this
 .intro b hb;rw[Zz,show a+(ak u a-a)=ak u a from by omega]at hb;obtain⟨ai,he⟩:=ZA.1 hb;have L6:ak u a<u.size:=by simpa using ai
  have:=UO u a;rw[ew L6]at this;rw[PE,<-he];exact this
theorem ag3(u:Zi)(i:Zb)(w:Zk)(hs:u.size<=1000)(hi:i<=u.size):
 Zg prog 51 #[.string (u.extract i u.size)] w λe w'=>e=.returned (.int .i64 ((ak u i:Za)-(i:Za)))/\Zj w.heap.size w w':=by
 have h1:=fJ u i;have h2:=iH u i hi;have HT:XX (Zg prog 81 #[.string (u.extract i u.size),.string ⟨#[9,10,13,32]⟩] w λe w'=>e=.returned (.string (u.extract (ak u i) u.size))/\Zj w.heap.size w w'):=by
  refine(Any.strings_TrimLeft_laid Tryz.lays161 (by kernel_rfl) (u.extract i u.size) ⟨#[9,10,13,32]⟩ w (by decide) ?_).mono ?_
  .intro j c hj;have hm:c∈([9,10,13,32]:Zf Zv):=Zf.mem_of_getElem? hj;simp at hm;rcases hm with rfl|rfl|rfl|rfl <;> decide
  .rintro e w' ⟨rfl,h⟩;refine⟨?_,h⟩;rw[G5 u i,nn,show(ZC #[9,10,13,32]).data.toList=[9,10,13,32]from rfl,ajS hi,G5];rfl
 have z1:(u.extract i u.size).size=u.size-i:=by rw[Zt];omega
 have z2:(u.extract (ak u i) u.size).size=u.size-ak u i:=by rw[Zt];omega
 obtain⟨X,hX⟩:∃X,X=u.extract i u.size:=⟨_,rfl⟩
 obtain⟨Y,hY⟩:∃Y,Y=u.extract (ak u i) u.size:=⟨_,rfl⟩
 rw[<-hX]at HT z1⊢;rw[<-hY]at HT z2;clear hX hY;go_enter func51,ntmps51;go_wp2_with fail;refine Zo HT.o ?_;rintro e w2 ⟨rfl,ah⟩;go_wp2;go_ret;refine⟨?_,ah⟩;refine congrArg (λn=>ZD (Zq.int .i64 n)) (?_:_=_);omega
theorem ahf(w:Zk):Zg prog 52 #[.string ⟨#[]⟩] w λe w'=>∃t,e=.returned (.tuple #[t,.int .i64 0])/\Zj w.heap.size w w'/\XX (jT w' (λm=>w.heap.size<=m) wB 0 t):=by
 go_enter func52,ntmps52;go_wp2;have hl:=it w.heap.size _ _ _ _ _ _ _ (aE (W:=w) (o:=.cells #[.int .i64 1,.int .i64 0,.string ⟨#[]⟩,.int .i64 0,.nilIface,.bool O] 63) rfl);refine Zm (v:=.tuple #[aI 1 0 ⟨#[]⟩ 0 .nilIface O,.int .i64 0]) (by simp[results,results52,aI,Zl,hl]) rfl ?_;exact⟨_,rfl,(Zr _ w).alloc (Zp _) _,jT.plain (kind:=101) (by decide)⟩
def jE(u:Zi)(j:Zb):aj×Zb:=if j=u.size then(wB,0)else aD (u.extract j u.size)
theorem ahe(hraw:Gy)(u:Zi)(j:Zb)(w:Zk)(hs:u.size<=1000)(hj:j<=u.size)(h:fw w L S N A J La):
 Zg prog 52 #[.string (u.extract j u.size)] w λe w'=>∃v,∃z:Zb,e=.returned (.tuple #[aI (aS (jE u j).1.kind) 0 (jE u j).1.txt (jE u j).1.num v (eL (jE u j).1),.int .i64 z])/\(z=(jE u j).2\/(jE u j).1.kind=120)/\Zj w.heap.size w w'/\eI v/\XX (PV w' (λm=>w.heap.size<=m) (jE u j).1 v):=by
 unfold jE;by_cases he:j=u.size
 .rw[Ze he,show u.extract j u.size=⟨#[]⟩from by rw[he,G5,Zf.drop_of_length_le (by simp)];rfl];refine(ahf w).mono ?_;rintro e w' ⟨t,rfl,hb,ht⟩;obtain⟨v,rfl,h2,h3⟩:=ht.o;exact⟨v,0,rfl,.inl rfl,hb,h2,h3⟩
 .rw[Zc he];have hz:(u.extract j u.size).size=u.size-j:=by rw[Zt];omega
  refine(ahd hraw (u.extract j u.size) w (by omega) (by omega) h).mono ?_;rintro e w' ⟨t,z,rfl,hz,hb,ht⟩;obtain⟨v,rfl,h2,h3⟩:=ht.o;exact⟨v,z,rfl,hz,hb,h2,h3⟩
theorem ajv(hj:j<=u.size):j+(jE u j).2<=u.size:=by
 unfold jE;by_cases he:j=u.size
 .rw[Ze he];simp only;omega
 .rw[Zc he];have hz:(u.extract j u.size).size=u.size-j:=by rw[Zt];omega
  have:=N6 (u:=u.extract j u.size) (by omega);omega
theorem ajM{f i:Zb}:(aS (jE u (ak u i)).1.kind=0\/aS (jE u (ak u i)).1.kind=1)/\js u (f+1) i=[((jE u (ak u i)).1,ak u i)]\/(aS (jE u (ak u i)).1.kind≠0/\aS (jE u (ak u i)).1.kind≠1)/\0<(jE u (ak u i)).2/\js u (f+1) i=((jE u (ak u i)).1,ak u i)::js u f (ak u i+(jE u (ak u i)).2):=by
 unfold jE;rw[js];by_cases he:ak u i=u.size
 .left;rw[Ze he,Ze he];exact⟨.inr rfl,rfl⟩
 .rw[Zc he,Zc he];by_cases h0:(aD (u.extract (ak u i) u.size)).2=0
  .left;rw[Ze h0];exact⟨.inl (by rw[U1 h0];rfl),rfl⟩
  .right;rw[Zc h0];exact⟨ajD h0,by omega,rfl⟩
end Go.Proofs.YtdlgkgfeoiohiaaGreatDoor
