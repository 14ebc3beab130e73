/- Part 27. -/
import Derived.Test.YtdlgkgfeoiohiaaGreatDoorA26
open Bool renaming false -> Zc,eq_iff_iff -> Zk
open Go renaming Value -> Zd,World -> Ze
open Go.Ending renaming returned -> Zj
open Go.RowKit renaming Below -> Zf
open Go.RowKit.Below renaming heap_setCell -> Zh
open Go.World renaming cell? -> Zg
open Nat renaming le_refl -> Zl
open Option renaming none -> O,some -> Zb
open _root_ renaming Int -> Za,ByteArray -> Zi
namespace Go.Proofs.YtdlgkgfeoiohiaaGreatDoor
set_option linter.unusedVariables false
set_option maxHeartbeats 16000000
set_option maxRecDepth 100000
open Go.RowKit J Go.Proofs.Tryz
variable {w w' w1:Ze}{m:Nat}{A B:Nat->Prop}{k:aj}{v:Zd}{at':Za}
theorem xN(c:Za)(w:Ze)(h0:0<=c)(h1:c<=255):Calls prog 82 #[.int .u8 c] w λe w'=>e=.returned (.bool (eD c))/\w=w':=by
 rcases(show c<65\/(65<=c/\c<=90)\/(90<c/\c<95)\/c=95\/c=96\/(97<=c/\c<=122)\/122<c from by omega)with h|h|h|h|h|h|h
 all_goals
  have HR:XX (eD c=decide ((97<=c/\c<=122)\/(65<=c/\c<=90)\/c=95)):=rfl;go_enter func82,ntmps82;go_wp2;go_ret;refine⟨?_,rfl⟩;rw[HR.o];refine congrArg (λb=>Zj (.bool b)) (?_:_=_);rw[Zk];simp
  try omega
theorem wj(c:Za)(w:Ze)(h0:0<=c)(h1:c<=255):Calls prog 84 #[.int .u8 c] w λe w'=>e=.returned (.bool (aK c))/\w=w':=by
 rcases(show c<48\/(48<=c/\c<=57)\/57<c from by omega)with h|h|h
 all_goals
  go_enter func84,ntmps84;go_wp2;go_ret;refine⟨?_,rfl⟩;refine congrArg (λb=>Zj (.bool b)) (?_:_=_);rw[Zk];simp[aK]
  try omega
def aS(k:Za):Za:=if k=101 then 1 else if k=115 then 2 else if k=119 then 3 else if k=113 then 4 else if k=114 then 5 else if k=108 then 6 else if k=110 then 7 else 0
def aI(kind place:Za)(s:Zi)(n:Za)(v:Zd)(lg:Bool):Zd:=.agg #[.int .i64 kind,.int .i64 place,.string s,.int .i64 n,v,.bool lg]
def ir:Obj:=.cells #[.int .i64 0,.int .i64 0,.string ⟨#[]⟩,.int .i64 0,.nilIface,.bool Zc] 63
def PV(w:Ze)(A:Nat->Prop)(k:aj)(v:Zd):Prop:=match k.val with
 |none=>v=.nilIface
 |some x=>fV 12 x/\(aF 12 x).length<=600000/\db 12 w A x v
def eL(k:aj):Bool:=decide (k.kind=108)&&k.val.isNone
def jT(w:Ze)(A:Nat->Prop)(k:aj)(at':Za)(t:Zd):Prop:=∃v,t=aI (aS k.kind) at' k.txt k.num v (eL k)/\eI v/\PV w A k v
theorem PV.keep(h:PV w A k v)(hk:∀i,A i->i<w.heap.size->w'.heap[i]?=w.heap[i]?/\B i):PV w' B k v:=by
 unfold PV at *;cases hv:k.val with
 |none=>rw[hv]at h;exact h
 |some x=>rw[hv]at h;exact⟨h.1,h.2.1,db.keep 12 h.2.2 hk⟩
theorem jT.keep{t:Zd}(h:jT w A k at' t)(hk:∀i,A i->i<w.heap.size->w'.heap[i]?=w.heap[i]?/\B i):jT w' B k at' t:=by
 obtain⟨v,h1,h2,h3⟩:=h;exact⟨v,h1,h2,h3.keep hk⟩
theorem jT.plain{kind:Za}{s:Zi}{n:Za}(h:kind≠108):jT w A ⟨kind,s,n,O⟩ at' (aI (aS kind) at' s n .nilIface Zc):=by
 refine⟨.nilIface,?_,.inl rfl,rfl⟩;rw[eL,decide_eq_false h];rfl
def jr(w:Ze)(m:Nat)(x0 x1 x2 x3 x4 x5:Zd):Ze:=(((((w.setCell ⟨m,0,O⟩ x0).setCell ⟨m,1,O⟩ x1).setCell ⟨m,2,O⟩ x2).setCell ⟨m,3,O⟩ x3).setCell ⟨m,4,O⟩ x4).setCell ⟨m,5,O⟩ x5
theorem mW{y0 y1 y2 y3 y4 y5:Zd}{t:TypeId}(x0 x1 x2 x3 x4 x5:Zd)(h:w.heap[m]?=Zb (.cells #[y0,y1,y2,y3,y4,y5] t (0,0))):(jr w m x0 x1 x2 x3 x4 x5).heap[m]?=Zb (.cells #[x0,x1,x2,x3,x4,x5] t (0,0)):=
 cY (cY (cY (cY (cY (cY h x0) x1) x2) x3) x4) x5
theorem ahU{k:Nat}(x0 x1 x2 x3 x4 x5:Zd)(h:k≠m):(jr w m x0 x1 x2 x3 x4 x5).heap[k]?=w.heap[k]?:=by
 have h':k≠(⟨m,0,O⟩:Addr).block:=h;unfold jr;rw[Zh _ _ _ _ (by simpa using h),Zh _ _ _ _ (by simpa using h),Zh _ _ _ _ (by simpa using h),Zh _ _ _ _ (by simpa using h),Zh _ _ _ _ (by simpa using h),Zh _ _ _ _ (by simpa using h)]
theorem it(b:Nat)(x0 x1 x2 x3 x4 x5:Zd)(W:Ze)(hb:W.heap[b]?=Zb (.cells #[x0,x1,x2,x3,x4,x5] 63 (0,0))):(loadVar 63 ⟨b,0,O⟩).run prog W=.ok (.agg #[x0,x1,x2,x3,x4,x5]) W:=by
 have c0:W.cell? ⟨b,0,O⟩=Zb x0:=by simp[Zg,hb]
 have c1:W.cell? ⟨b,1,O⟩=Zb x1:=by simp[Zg,hb]
 have c2:W.cell? ⟨b,2,O⟩=Zb x2:=by simp[Zg,hb]
 have c3:W.cell? ⟨b,3,O⟩=Zb x3:=by simp[Zg,hb]
 have c4:W.cell? ⟨b,4,O⟩=Zb x4:=by simp[Zg,hb]
 have c5:W.cell? ⟨b,5,O⟩=Zb x5:=by simp[Zg,hb]
 simp[loadVar,isAgg,underlying,underlying63,loadCells,loadCellsFrom,Addr.add,c0,c1,c2,c3,c4,c5,Result.andThen]
def oz(u:Zi)(w:Ze)(e:Ending)(w':Ze):Prop:=
 ∃t,e=.returned (.tuple #[t,.int .i64 ((aD u).2:Nat)])/\Zf w.heap.size w w'/\XX (jT w' (λm=>w.heap.size<=m) (aD u).1 0 t)
theorem rR(h:w.heap[m]?=Zb (.cells #[.int .i64 0,.int .i64 0,.string ⟨#[]⟩,.int .i64 0,.nilIface,.bool Zc] 63 (0,0))):
 w.cell? ⟨m,0,O⟩=Zb (.int .i64 0)/\w.cell? ⟨m,1,O⟩=Zb (.int .i64 0)/\w.cell? ⟨m,2,O⟩=Zb (.string ⟨#[]⟩)/\w.cell? ⟨m,3,O⟩=Zb (.int .i64 0)/\w.cell? ⟨m,4,O⟩=Zb .nilIface/\w.cell? ⟨m,5,O⟩=Zb (.bool Zc)/\∀o,w.frozen? ⟨m,o,O⟩=Zc:=by
 refine⟨?_,?_,?_,?_,?_,?_,λo=>?_⟩ <;> simp[Zg,Ze.frozen?,h]
theorem CC{B:Nat}(x0 x1 x2 x3 x4 x5:Zd)(h:Zf B w w1)(hm:B<=m):Zf B w (jr w1 m x0 x1 x2 x3 x4 x5):=
 (((((h.setCell (p:=⟨m,0,O⟩) hm _).setCell (p:=⟨m,1,O⟩) hm _).setCell (p:=⟨m,2,O⟩) hm _).setCell (p:=⟨m,3,O⟩) hm _).setCell (p:=⟨m,4,O⟩) hm _).setCell (p:=⟨m,5,O⟩) hm _
theorem tC{u:Zi}{K:aj}{z:Nat}(hB:Zf w.heap.size w w1)(hE:aD u=(K,z))(hv:eI v)(hPV:PV w1 (λm=>w.heap.size<m) K v):
 ∃t,Zj (.tuple #[aI (aS K.kind) 0 K.txt K.num v (eL K),.int .i64 z])=.returned (.tuple #[t,.int .i64 ((aD u).2:Nat)])/\Zf w.heap.size w (jr w1 w.heap.size (.int .i64 (aS K.kind)) (.int .i64 0) (.string K.txt) (.int .i64 K.num) v (.bool (eL K))) /\
  XX (jT (jr w1 w.heap.size (.int .i64 (aS K.kind)) (.int .i64 0) (.string K.txt) (.int .i64 K.num) v (.bool (eL K))) (λm=>w.heap.size<=m) (aD u).1 0 t):=by
 rw[hE];exact⟨_,rfl,CC _ _ _ _ _ _ hB (Zl _),v,rfl,hv,hPV.keep (λi hi _=>⟨ahU _ _ _ _ _ _ (by omega),by omega⟩)⟩
theorem aia(u:Zi)(w:Ze)(hs:u.size<=1000)(h0:0<u.size)(hl:eD (gb u 0)=true):
 Calls prog 83 #[.string u] w λe w'=>oz u w e w':=by
 unfold oz;have HK:XX (aD u=(⟨119,u.extract 0 (oo u),0,O⟩,oo u)):=by show _=_;rw[aD,if_pos hl]
 have HW:XX (m9 u u.size 1=oo u):=rfl;obtain⟨E,hE⟩:∃E,E=oo u:=⟨_,rfl⟩
 rw[<-hE]at HK HW;clear hl hE;go_enter func83,ntmps83;go_wp2_with fail;obtain⟨W,hW⟩:∃W,W=w.alloc (.cells #[.int .i64 0,.int .i64 0,.string ⟨#[]⟩,.int .i64 0,.nilIface,.bool Zc] 63):=⟨_,rfl⟩
 go_loopg [4] u.size (λg iv wr=>wr=W/\∃j:Nat,1<=j/\j<=u.size/\g=u.size+1-j/\m9 u (u.size+1-j) j=E/\iv=.int .i64 j)
 case atStart=>exact⟨hW.symm,1,by omega,by omega,by omega,by rw[<-HW.o];rfl,rfl⟩
 case round=>
  obtain⟨rfl,j,l8,nu,hg,qN,rfl⟩:=hrel;have HG:=aa hg;have ms:=aa qN;clear hg qN;have HF:XX (E=j->∃t,(Zj (.tuple #[aI 3 0 (u.extract 0 j) 0 .nilIface Zc,.int .i64 j]))=.returned (.tuple #[t,.int .i64 ((aD u).2:Nat)])/\Zf w.heap.size w (w.alloc (.cells #[.int .i64 3,.int .i64 0,.string (u.extract 0 j),.int .i64 0,.nilIface,.bool Zc] 63))/\XX (jT (w.alloc (.cells #[.int .i64 3,.int .i64 0,.string (u.extract 0 j),.int .i64 0,.nilIface,.bool Zc] 63)) (λm=>w.heap.size<=m) (aD u).1 0 t)):=λe=>by
   rw[HK.o,e];exact⟨_,rfl,(Zf.refl _ w).alloc (Zl _) _,jT.plain (by decide)⟩
  rcases Nat.lt_or_ge j u.size with fY|fY
  .have k1:(j:Za)<(u.size:Za):=by omega
   obtain⟨c,hc⟩:∃c,c=((u[j]'fY).toNat:Za):=⟨_,rfl⟩
   have HC:XX (((u[j]'fY).toNat:Za)=c):=hc.symm;have fW:0<=c:=by omega
   have cU:c<=255:=by have:=(u[j]'fY).toNat_lt;omega
   have qT:XX (m9 u (u.size+1-(j+1)) (j+1)=if eD c || aK c then E else m9 u (u.size+1-(j+1)) (j+1)):=by
    show _=_;cases hb:(eD c || aK c)
    .rfl
    .have:=ms.o;rw[show u.size+1-j=(u.size+1-(j+1))+1 from by omega,m9,ew fY,<-hc,hb]at this;exact this
   have Ga:XX ((eD c || aK c)=Zc->E=j):=λhb=>by
    have:=ms.o;rw[show u.size+1-j=(u.size+1-(j+1))+1 from by omega,m9,ew fY,<-hc,hb]at this;exact this.symm
   clear hc;go_wp2_with fail;rw[HC.o];refine(xN c _ fW cU).mono ?_;rintro e w2 ⟨rfl,rfl⟩;cases hl:eD c
   .rw[hl]at qT Ga;clear hl;go_wp2_with fail;rw[HC.o];refine(wj c _ fW cU).mono ?_;rintro e w2 ⟨rfl,rfl⟩;cases hd:aK c
    .rw[hd]at Ga;have Dj:=aa (HF.o (Ga.o rfl));clear hd qT Ga;go_wp2;have hl:=it w.heap.size _ _ _ _ _ _ _ (aE (W:=w) (o:=.cells #[.int .i64 3,.int .i64 0,.string (u.extract 0 j),.int .i64 0,.nilIface,.bool Zc] 63) rfl);refine bodyPost_ret (v:=.tuple #[aI 3 0 (u.extract 0 j) 0 .nilIface Zc,.int .i64 j]) (by simp[results,results83,aI,asAddr,hl]) rfl ?_;exact Dj.o
    .rw[hd]at qT;clear hd;go_wp2;go_roundg (u.size+1-(j+1))
     case measure=>rw[HG.o];omega
     case rel=>exact⟨hW.symm,j+1,by omega,by omega,rfl,qT.o,by go_num⟩
   .rw[hl]at qT;clear hl;go_wp2;go_roundg (u.size+1-(j+1))
    case measure=>rw[HG.o];omega
    case rel=>exact⟨hW.symm,j+1,by omega,by omega,rfl,qT.o,by go_num⟩
  .have k1:¬((j:Za)<(u.size:Za)):=by omega
   have hje:j=u.size:=by omega
   have LL:=HF.o (by have:=ms.o;rw[show u.size+1-j=0+1 from by omega,m9,nS fY]at this;exact this.symm);rw[hje,show u.extract 0 u.size=u from by simp]at LL;have Dj:=aa LL;clear LL;go_wp2;have hl:=it w.heap.size _ _ _ _ _ _ _ (aE (W:=w) (o:=.cells #[.int .i64 3,.int .i64 0,.string u,.int .i64 0,.nilIface,.bool Zc] 63) rfl);refine bodyPost_ret (v:=.tuple #[aI 3 0 u 0 .nilIface Zc,.int .i64 u.size]) (by simp[results,results83,aI,asAddr,hl]) rfl ?_;exact Dj.o
end Go.Proofs.YtdlgkgfeoiohiaaGreatDoor
