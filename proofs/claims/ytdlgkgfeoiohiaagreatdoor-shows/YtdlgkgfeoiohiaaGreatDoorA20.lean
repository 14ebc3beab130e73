/- Part 20. -/
import Derived.Test.YtdlgkgfeoiohiaaGreatDoorA17
open Bool renaming false -> Zf,true -> Zj
open Go renaming Value -> Zg,World -> Zh,Calls -> Zm,Addr -> Zu,asAddr -> ZA,bodyPost_ret -> ZB
open Go.Addr renaming add_lit -> Zx
open Go.Calls renaming mono -> Zn
open Go.RowKit renaming Below -> Zv
open Go.RowKit.Below renaming refl -> Zq,heap_alloc -> ZE
open Go.Value renaming ownBlock -> ZI,slice -> ZM
open Go.World renaming cell? -> Zt
open Go.World.ownsRow renaming lt -> ZC,kept -> ZN,cells -> ZO
open List renaming length_append -> Zy,map -> Zz,getElem?_eq_getElem -> ZG,cons_append -> ZK,nil_append -> ZL
open Nat renaming le_refl -> Zl,zero_le -> ZH
open Option renaming some -> Za,none -> Zb
open _root_ renaming Nat -> O,List -> Zc,ByteArray -> Zd,Int -> Ze,if_neg -> Zi,if_pos -> Zk,Option -> Zo,beq_eq_false_iff_ne -> Zp,Bool -> Zr,Except -> Zw,decide_eq_false -> ZD,decide_eq_true -> ZJ
namespace Go.Proofs.YtdlgkgfeoiohiaaGreatDoor
set_option linter.unusedVariables false
set_option maxHeartbeats 16000000
set_option maxRecDepth 100000
open Go.RowKit J Tryz
variable {w w' W:Zh}{g cap b i d n a N M M':O}{T:Zc (aj×O)}{bad:Ze}{A V B:O->Prop}{k:aj}{q:Zo Zu}{u:Zd}{v p:Zg}{xs:Zc Zg}{e:TypeId}
theorem wo(w:Zh)(e:TypeId)(xs:Zc Zg)(h:xs.length<=maxLen):ao (w.alloc (.cells xs.toArray e)) e (.slice (Za ⟨w.heap.size,0,Zb⟩) xs.length xs.length) xs:=
 ⟨by simp,Or.inr ⟨w.heap.size,xs.length,xs.toArray,rfl,ZH _,aE rfl,Zl _,h,by simp,by simp⟩⟩
theorem aiK(h1:eD (gb u 0)=Zf)(h2:gb u 0≠34)(h3:gb u 0≠39)(h4:gb u 0≠96)(h5:gb u 0≠45)(h6:aK (gb u 0)=Zf):
 aD u=if 1<u.size/\ea lQ (u.extract 0 2)=Zj then(⟨115,u.extract 0 2,0,Zb⟩,2)
  else if ea kY (u.extract 0 1)=Zj then(⟨115,u.extract 0 1,0,Zb⟩,1)else(lC,0):=by
 rw[aD,h1,Zi (by simp),Zi h2,Zi h3,Zi h4,Zi (by rw[h6];simp[h5])]
theorem adB(W:Zh)(B:O)(s:Zd)(hB:W.heap.size=B):
 Zm prog 147 #[.slice (Za ⟨B,0,Zb⟩) 6 6,.string s] (W.alloc (.cells #[.string ⟨#[38,38]⟩,.string ⟨#[124,124]⟩,.string ⟨#[61,61]⟩,.string ⟨#[33,61]⟩,.string ⟨#[60,61]⟩,.string ⟨#[62,61]⟩] 9))
  λe w'=>e=.returned (.bool (ea lQ s))/\w'=W.alloc (.cells #[.string ⟨#[38,38]⟩,.string ⟨#[124,124]⟩,.string ⟨#[61,61]⟩,.string ⟨#[33,61]⟩,.string ⟨#[60,61]⟩,.string ⟨#[62,61]⟩] 9):=by
 subst hB;exact Lr lQ s _ _ (wo W 9 (kv lQ) (by decide)) (by decide)
theorem Ri(W:Zh)(B:O)(s:Zd)(hB:W.heap.size=B):
 Zm prog 147 #[.slice (Za ⟨B,0,Zb⟩) 17 17,.string s] (W.alloc (.cells #[.string ⟨#[46]⟩,.string ⟨#[42]⟩,.string ⟨#[91]⟩,.string ⟨#[93]⟩,.string ⟨#[40]⟩,.string ⟨#[41]⟩,.string ⟨#[123]⟩,.string ⟨#[125]⟩,.string ⟨#[44]⟩,.string ⟨#[58]⟩,.string ⟨#[64]⟩,.string ⟨#[38]⟩,.string ⟨#[124]⟩,.string ⟨#[33]⟩,.string ⟨#[60]⟩,.string ⟨#[62]⟩,.string ⟨#[63]⟩] 9))
  λe w'=>e=.returned (.bool (ea kY s))/\w'=W.alloc (.cells #[.string ⟨#[46]⟩,.string ⟨#[42]⟩,.string ⟨#[91]⟩,.string ⟨#[93]⟩,.string ⟨#[40]⟩,.string ⟨#[41]⟩,.string ⟨#[123]⟩,.string ⟨#[125]⟩,.string ⟨#[44]⟩,.string ⟨#[58]⟩,.string ⟨#[64]⟩,.string ⟨#[38]⟩,.string ⟨#[124]⟩,.string ⟨#[33]⟩,.string ⟨#[60]⟩,.string ⟨#[62]⟩,.string ⟨#[63]⟩] 9):=by
 subst hB;exact Lr kY s _ _ (wo W 9 (kv kY) (by decide)) (by decide)
theorem zr{o b:Obj}(h:W.heap[i]?=Za o):(W.alloc b).heap[i]?=Za o:=tX ((Zq _ W).alloc (Zl _) _) (al h) h
theorem ajJ(u:Zd)(w:Zh)(hs:u.size<=1000)(h0:0<u.size)(h1:eD (gb u 0)=Zf)(h2:gb u 0≠34)(h3:gb u 0≠39)(h4:gb u 0≠96)(h5:gb u 0≠45)(h6:aK (gb u 0)=Zf):
 Zm prog 95 #[.string u] w λe w'=>∃t,e=.returned (.tuple #[t,.int .i64 ((aD u).2:O)])/\Zv w.heap.size w w'/\XX (du w' (λm=>w.heap.size<=m) (aD u).1 0 t):=by
 have fO:=ew h0;have cU:0<=((u[0]'h0).toNat:Ze):=by omega
 have eK:((u[0]'h0).toNat:Ze)<=255:=by have:=(u[0]'h0).toNat_lt;omega
 obtain⟨c,hc⟩:∃c,c=((u[0]'h0).toNat:Ze):=⟨_,rfl⟩
 have HC:XX (((u[0]'h0).toNat:Ze)=c):=hc.symm;have HG:XX (gb u 0=c):=by show _=_;rw[fO,hc]
 rw[<-hc]at cU eK;obtain⟨K,z,hK⟩:∃K z,aD u=(K,z):=⟨_,_,rfl⟩
 have HK:XX (aD u=(K,z)):=hK;have HR:=aa (aiK h1 h2 h3 h4 h5 h6);rw[hK];simp only;have qX:XX (eD c=Zf):=by show _=_;rw[<-HG.o];exact h1
 have wI:XX (aK c=Zf):=by show _=_;rw[<-HG.o];exact h6
 have m1:(c==34)=Zf:=Zp.2 (by rw[<-HG.o];exact h2);have m2:(c==39)=Zf:=Zp.2 (by rw[<-HG.o];exact h3);have m3:(c==96)=Zf:=Zp.2 (by rw[<-HG.o];exact h4);have m4:(c==45)=Zf:=Zp.2 (by rw[<-HG.o];exact h5);clear fO hc hK h1 h2 h3 h4 h5 h6;by_cases hlong:1<u.size
 .have lK:(1:Ze)<(u.size:Ze):=by omega
  have rH:(2:Ze)<=(u.size:Ze):=by omega
  obtain⟨bl,mG⟩:∃b,b=ea lQ (u.extract 0 2):=⟨_,rfl⟩
  obtain⟨bs',kL⟩:∃b,b=ea kY (u.extract 0 1):=⟨_,rfl⟩
  have aR:XX (ea lQ (u.extract 0 2)=bl):=mG.symm;have sd:XX (ea kY (u.extract 0 1)=bs'):=kL.symm;have iK:XX ((K,z)=if bl=Zj then((⟨115,u.extract 0 2,0,Zb⟩,2):aj×O)else if bs'=Zj then(⟨115,u.extract 0 1,0,Zb⟩,1)else(lC,0)):=by
   show _=_;rw[<-HK.o,HR.o,aR.o,sd.o];simp[hlong]
  clear mG kL hlong HR HK;go_enter func95,ntmps95;go_wp2_with fail;rw[HC.o];refine(xI _ _ cU eK).mono ?_;rintro e w1 ⟨rfl,rfl⟩;rw[qX.o];go_wp2_with fail;refine(xe _ _ cU eK).mono ?_;rintro e w1 ⟨rfl,rfl⟩;rw[wI.o];go_wp2_with fail;refine(adB _ _ _ (by simp)).mono ?_;rintro e w1 ⟨rfl,rfl⟩;rw[aR.o];cases bl
  .go_wp2_with fail;refine(Ri _ _ _ (by simp)).mono ?_;rintro e w1 ⟨rfl,rfl⟩;rw[sd.o];cases bs'
   .have mr:XX (K=lC/\z=0):=by have:=iK.o;simp at this;exact this
    go_wp2;have hl:=iw w.heap.size _ _ _ _ _ _ (zr (b:=.cells (kv kY).toArray 9) (zr (b:=.cells (kv lQ).toArray 9) (aE (W:=w) (o:=.cells #[.int .u8 120,.int .i64 0,.string ⟨#[]⟩,.int .i64 0,.pointer Zb] 128) rfl)));simp only[kv,lQ,kY,Zz]at hl;refine ZB (v:=.tuple #[bD 120 0 ⟨#[]⟩ 0 (.pointer Zb),.int .i64 0]) (by simp[results,results95,bD,ZA,hl]) rfl ?_;refine⟨_,by rw[mr.o.2];rfl,(((Zq _ w).alloc (Zl _) _).alloc (by simp) _).alloc (by simp;omega) _,?_⟩;show du _ _ _ _ _;rw[mr.o.1];exact du.plain
   .have mr:XX (K=⟨115,u.extract 0 1,0,Zb⟩/\z=1):=by have:=iK.o;simp at this;exact this
    go_wp2;have hl:=iw w.heap.size _ _ _ _ _ _ (zr (b:=.cells (kv kY).toArray 9) (zr (b:=.cells (kv lQ).toArray 9) (aE (W:=w) (o:=.cells #[.int .u8 115,.int .i64 0,.string (u.extract 0 1),.int .i64 0,.pointer Zb] 128) rfl)));simp only[kv,lQ,kY,Zz]at hl;refine ZB (v:=.tuple #[bD 115 0 (u.extract 0 1) 0 (.pointer Zb),.int .i64 1]) (by simp[results,results95,bD,ZA,hl]) rfl ?_;refine⟨_,by rw[mr.o.2];rfl,(((Zq _ w).alloc (Zl _) _).alloc (by simp) _).alloc (by simp;omega) _,?_⟩;show du _ _ _ _ _;rw[mr.o.1];exact du.plain
  .have mr:XX (K=⟨115,u.extract 0 2,0,Zb⟩/\z=2):=by have:=iK.o;simp at this;exact this
   go_wp2;have hl:=iw w.heap.size _ _ _ _ _ _ (zr (b:=.cells (kv lQ).toArray 9) (aE (W:=w) (o:=.cells #[.int .u8 115,.int .i64 0,.string (u.extract 0 2),.int .i64 0,.pointer Zb] 128) rfl));simp only[kv,lQ,Zz]at hl;refine ZB (v:=.tuple #[bD 115 0 (u.extract 0 2) 0 (.pointer Zb),.int .i64 2]) (by simp[results,results95,bD,ZA,hl]) rfl ?_;refine⟨_,by rw[mr.o.2];rfl,((Zq _ w).alloc (Zl _) _).alloc (by simp) _,?_⟩;show du _ _ _ _ _;rw[mr.o.1];exact du.plain
 .have lK:¬((1:Ze)<(u.size:Ze)):=by omega
  obtain⟨bs',kL⟩:∃b,b=ea kY (u.extract 0 1):=⟨_,rfl⟩
  have sd:XX (ea kY (u.extract 0 1)=bs'):=kL.symm;have iK:XX ((K,z)=if bs'=Zj then((⟨115,u.extract 0 1,0,Zb⟩,1):aj×O)else(lC,0)):=by
   show _=_;rw[<-HK.o,HR.o,sd.o];simp[hlong]
  clear kL hlong HR HK;go_enter func95,ntmps95;go_wp2_with fail;rw[HC.o];refine(xI _ _ cU eK).mono ?_;rintro e w1 ⟨rfl,rfl⟩;rw[qX.o];go_wp2_with fail;refine(xe _ _ cU eK).mono ?_;rintro e w1 ⟨rfl,rfl⟩;rw[wI.o];go_wp2_with fail;refine(Ri _ _ _ (by simp)).mono ?_;rintro e w1 ⟨rfl,rfl⟩;rw[sd.o];cases bs'
  .have mr:XX (K=lC/\z=0):=by have:=iK.o;simp at this;exact this
   go_wp2;have hl:=iw w.heap.size _ _ _ _ _ _ (zr (b:=.cells (kv kY).toArray 9) (aE (W:=w) (o:=.cells #[.int .u8 120,.int .i64 0,.string ⟨#[]⟩,.int .i64 0,.pointer Zb] 128) rfl));simp only[kv,kY,Zz]at hl;refine ZB (v:=.tuple #[bD 120 0 ⟨#[]⟩ 0 (.pointer Zb),.int .i64 0]) (by simp[results,results95,bD,ZA,hl]) rfl ?_;refine⟨_,by rw[mr.o.2];rfl,((Zq _ w).alloc (Zl _) _).alloc (by simp) _,?_⟩;show du _ _ _ _ _;rw[mr.o.1];exact du.plain
  .have mr:XX (K=⟨115,u.extract 0 1,0,Zb⟩/\z=1):=by have:=iK.o;simp at this;exact this
   go_wp2;have hl:=iw w.heap.size _ _ _ _ _ _ (zr (b:=.cells (kv kY).toArray 9) (aE (W:=w) (o:=.cells #[.int .u8 115,.int .i64 0,.string (u.extract 0 1),.int .i64 0,.pointer Zb] 128) rfl));simp only[kv,kY,Zz]at hl;refine ZB (v:=.tuple #[bD 115 0 (u.extract 0 1) 0 (.pointer Zb),.int .i64 1]) (by simp[results,results95,bD,ZA,hl]) rfl ?_;refine⟨_,by rw[mr.o.2];rfl,((Zq _ w).alloc (Zl _) _).alloc (by simp) _,?_⟩;show du _ _ _ _ _;rw[mr.o.1];exact du.plain
theorem ajF(u:Zd)(w:Zh)(hs:u.size<=1000)(h0:0<u.size):
 Zm prog 95 #[.string u] w λe w'=>∃t,e=.returned (.tuple #[t,.int .i64 ((aD u).2:O)])/\Zv w.heap.size w w'/\XX (du w' (λm=>w.heap.size<=m) (aD u).1 0 t):=by
 by_cases h1:eD (gb u 0)=Zj
 .exact ajK u w hs h0 h1
 by_cases h2:gb u 0=34
 .exact ajH u w hs h0 h2
 by_cases h3:gb u 0=39
 .exact ajI u w hs h0 h3
 by_cases h4:gb u 0=96
 .exact ajG u w hs h0 h4
 by_cases h5:gb u 0=45
 .exact U2 u w hs h0 (Or.inl h5)
 by_cases h6:aK (gb u 0)=Zj
 .exact U2 u w hs h0 (Or.inr h6)
 exact ajJ u w hs h0 (by simpa using h1) h2 h3 h4 h5 (by simpa using h6)
theorem Nv:∀(f i:O) (out:Zc UInt8),(iX u f i out).2<=u.size
 |0,i,out=>by simp[iX]
 |f+1,i,out=>by
  rw[iX];by_cases h1:gb u i<0
  .rw[Zk h1];simp
  rw[Zi h1];have hi:i<u.size:=cC (by omega);by_cases h2:gb u i=39
  .rw[Zk h2];split
   .simp;omega
   .simp
  rw[Zi h2];by_cases h3:gb u i=92
  .rw[Zk h3];split
   .exact Nv f _ _
   .simp
  rw[Zi h3];exact Nv f _ _
theorem aj6(h0:0<u.size):(ia u).2<=u.size:=by
 unfold ia;by_cases h:gb u 0=45
 .simp only[Zk h];by_cases hc:aA u 1=1\/6<aA u 1-1\/(1<aA u 1-1/\gb u 1=48)
  .rw[Zk hc];exact ZH _
  .have:=nK u 1 (by omega);simp only[Zi hc];exact this
 .simp only[Zi h];by_cases hc:aA u 0=0\/6<aA u 0-0\/(1<aA u 0-0/\gb u 0=48)
  .rw[Zk hc];exact ZH _
  .have:=nK u 0 (by omega);simp only[Zi hc];exact this
theorem N6(h0:0<u.size):(aD u).2<=u.size:=by
 rw[aD];by_cases h1:eD (gb u 0)=Zj
 .rw[Zk h1];exact(Oe _ 1).2 (by omega)
 rw[Zi h1];by_cases h2:gb u 0=34
 .rw[Zk h2];by_cases h:(aw u 0).2.2<0
  .rw[Zk h];exact An (by omega) h
  .rw[Zi h];simp
 rw[Zi h2];by_cases h3:gb u 0=39
 .rw[Zk h3];by_cases h:(oL u).2=0
  .rw[Zk h];simp
  .rw[Zi h];exact Nv _ _ _
 rw[Zi h3];by_cases h4:gb u 0=96
 .rw[Zk h4];cases hl:nF u with
  |none=>simp
  |some j=>
   have hj:=Tm _ _ _ hl;simp only;unfold qP;split
   .simp;omega
   .split
    .cases cZ 12 (u.extract 1 j) 0 Zf with
     |ok r=>simp;omega
     |error e=>simp
    .simp
 rw[Zi h4];by_cases h5:gb u 0=45\/aK (gb u 0)=Zj
 .rw[Zk h5];by_cases h:(ia u).2=0
  .rw[Zk h];simp
  .rw[Zi h];exact aj6 h0
 rw[Zi h5];by_cases h6:1<u.size/\ea lQ (u.extract 0 2)=Zj
 .rw[Zk h6];simp;omega
 rw[Zi h6];split
 .simp;omega
 .simp
def wB:aj:=⟨101,⟨#[]⟩,0,Zb⟩
def js(u:Zd):O->O->Zc (aj×O)
 |0,_=>[]
 |f+1,i=>
  if ak u i=u.size then[(wB,ak u i)]
  else if(aD (u.extract (ak u i) u.size)).2=0 then[((aD (u.extract (ak u i) u.size)).1,ak u i)]
  else((aD (u.extract (ak u i) u.size)).1,ak u i)::js u f (ak u i+(aD (u.extract (ak u i) u.size)).2)
def toks(u:Zd):Zc (aj×O):=js u (u.size+1) 0
theorem U4{u:Zd}:∀(f i:O),(js u f i).length<=f
 |0,i=>by simp[js]
 |f+1,i=>by
  rw[js];split
  .simp
  .split
   .simp
   .have:=U4 (u:=u) f (ak u i+(aD (u.extract (ak u i) u.size)).2);simp;omega
def TV(w:Zh)(A:O->Prop)(k:aj)(q:Zo Zu):Prop:=match k.val with
 |none=>q=Zb
 |some v=>fV 12 v/\(aF 12 v).length<=900000/\br 12 w A v (.pointer q)
theorem TV.keep(h:TV w A k q)(hk:∀i o,A i->w.heap[i]?=Za o->w'.heap[i]?=w.heap[i]?/\B i):TV w' B k q:=by
 unfold TV at *;cases hv:k.val with
 |none=>rw[hv]at h;exact h
 |some v=>rw[hv]at h;exact⟨h.1,h.2.1,br.keep 12 h.2.2 hk⟩
theorem du.parts{a:Ze}{t:Zg}(h:du w A k a t):∃q,t=bD k.kind a k.txt k.num (.pointer q)/\TV w A k q:=h
def lB(k:aj)(a:O)(q:Zo Zu):Zc Zg:=[.int .u8 k.kind,.int .i64 a,.string k.txt,.int .i64 k.num,.pointer q]
def kc(w:Zh)(A:O->Prop):Zc (aj×O)->Zc Zg->Prop
 |[],xs=>xs=[]
 |x::l,xs=>∃q ys,xs=lB x.1 x.2 q++ys/\TV w A x.1 q/\kc w A l ys
theorem kc.keep(hk:∀i o,A i->w.heap[i]?=Za o->w'.heap[i]?=w.heap[i]?/\B i):∀{l:Zc (aj×O)} {xs:Zc Zg},kc w A l xs->kc w' B l xs
 |[],xs,h=>h
 |x::l,xs,h=>by
  obtain⟨q,ys,h1,h2,h3⟩:=h;exact⟨q,ys,h1,h2.keep hk,kc.keep hk h3⟩
theorem kc.snoc(hq:TV w A k q):∀{l:Zc (aj×O)} {xs:Zc Zg},kc w A l xs->kc w A (l++[(k,a)]) (xs++lB k a q)
 |[],xs,h=>by have h:xs=[]:=h;subst h;exact⟨q,[],by simp,hq,rfl⟩
 |x::l,xs,h=>by
  obtain⟨q',ys,h1,h2,h3⟩:=h;exact⟨q',ys++lB k a q,by rw[h1,Zc.append_assoc],h2,kc.snoc hq h3⟩
theorem kc.len:∀{l:Zc (aj×O)} {xs:Zc Zg},kc w A l xs->xs.length=l.length*5
 |[],xs,h=>by have h:xs=[]:=h;subst h;rfl
 |x::l,xs,h=>by
  obtain⟨q',ys,h1,h2,h3⟩:=h;have:=kc.len h3;rw[h1,Zy,this];simp[lB];omega
theorem kc.get:∀{l:Zc (aj×O)} {xs:Zc Zg} {i:O} {k:aj} {a:O},kc w A l xs->l[i]?=Za (k,a) ->
 ∃q,TV w A k q/\∀j,j<5->xs[i*5+j]?=(lB k a q)[j]?
 |[],xs,i,k,a,h,hi=>by simp at hi
 |x::l,xs,i,k,a,h,hi=>by
  obtain⟨q',ys,h1,h2,h3⟩:=h;cases i with
  |zero=>
   simp at hi;subst hi;refine⟨q',h2,λj hj=>?_⟩;rw[h1,Zc.getElem?_append_left (by simp[lB];omega)];simp
  |succ i=>
   simp at hi;obtain⟨q,hq,hc⟩:=kc.get h3 hi;refine⟨q,hq,λj hj=>?_⟩;rw[h1,Zc.getElem?_append_right (by simp[lB];omega),<-hc j hj]
   congr 1
   simp[lB];omega
def qy(w:Zh)(N:O)(A:O->Prop)(v:Zg)(l:Zc (aj×O)):Prop:=∃xs,w.ownsRow N 128 5 v l.length xs/\kc w A l xs
theorem afw:(prog.info? 128).map (λi=>(i.zero,i.size,i.bytes))=Za (Za (bD 0 0 ⟨#[]⟩ 0 (.pointer Zb)),5,48):=by kernel_rfl
theorem agT(k:aj)(a:O)(q:Zo Zu):∀u∈lB k a q,u.oneCell'=Zj:=by
 intro u hu;simp only[lB,Zc.mem_cons,Zc.not_mem_nil,or_false]at hu;rcases hu with rfl|rfl|rfl|rfl|rfl <;> rfl
theorem Pq{ops:Array Oper}{rest:Zc Oper}{o:Oper}{a:Act}{Q:Exit->Act->Zh->Prop}(hgd:o.guard=Zb)(s x:Operand)
 (ho:o.op=.call { callee:=.builtin .append,args:=#[s,x],argTypes:=#[122,122] })
 (N:O) (v:Zg) (n:O) (xs:Zc Zg) (hs:a.eval s=v) (am:w.ownsRow N 128 5 v n xs) (ad:Zu) (c:O) (k:aj) (at':O) (q:Zo Zu) (hx:a.eval x=.slice (Za ad) 1 c)
 (hnews:∀j u,(lB k at' q)[j]?=Za u->w.cell? (ad.add j)=Za u) (hl:n<=100000) (hbase:N<=w.heap.size) (H:O) (hH:w.heap.size=H)
 (h:∀g cap w',w'.ownsRow N 128 5 (.slice (Za ⟨g,0,Zb⟩) (n+1) cap) (n+1) (xs++lB k at' q)->w.grownBy w' v.ownBlock->(v.ownBlock=Za g\/g=H)->g<w'.heap.size->wpList prog ops Q rest (a.put o.dst (.slice (Za ⟨g,0,Zb⟩) (n+1) cap)) w'):wpList prog ops Q (o::rest) a w:=by
 obtain⟨i0,hi,ip,ee,dP⟩:=info_parts afw;exact wpList_append_lies _ hgd s x 122 ho N 128 i0 _ 5 48 underlying122 hi ip ee dP rfl (by decide) v n xs hs am ad 1 c (lB k at' q) hx rfl hnews (agT _ _ _) (by omega) (by unfold maxLen;omega) (by omega) hbase H hH h
theorem ajE(h:W.heap.size=n):
 ∀j u,(lB k a q)[j]?=Za u->(W.alloc (.cells #[.int .u8 k.kind,.int .i64 a,.string k.txt,.int .i64 k.num,.pointer q] 128)).cell? ((⟨n,0,Zb⟩:Zu).add j)=Za u:=by
 have hh:(W.alloc (.cells #[.int .u8 k.kind,.int .i64 a,.string k.txt,.int .i64 k.num,.pointer q] 128)).heap[n]?=Za (.cells #[.int .u8 k.kind,.int .i64 a,.string k.txt,.int .i64 k.num,.pointer q] 128 (0,0)):=aE h;intro j u hj
 match j,hj with
 |0,hj=>simp[lB]at hj;subst hj;simp[Zx,Zt,hh]
 |1,hj=>simp[lB]at hj;subst hj;simp[Zx,Zt,hh]
 |2,hj=>simp[lB]at hj;subst hj;simp[Zx,Zt,hh]
 |3,hj=>simp[lB]at hj;subst hj;simp[Zx,Zt,hh]
 |4,hj=>simp[lB]at hj;subst hj;simp[Zx,Zt,hh]
 |j+5,hj=>simp[lB]at hj
theorem Vc{w2 w3:Zh}{l:Zc (aj×O)}
 (hT:kc w (λm=>N<=m/\v.ownBlock≠Za m) l xs) (ai:∀b,v.ownBlock=Za b->b<M) (hb:∀m,m<w.heap.size->w2.heap[m]?=w.heap[m]?) (hs:w.heap.size<=w2.heap.size)
 (hq:TV w2 (λm=>M<=m) k q) (hNM:N<=M) (an:w2.grownBy w3 v.ownBlock) (hg:v.ownBlock=Za g\/w2.heap.size<=g):
 kc w3 (λm=>N<=m/\(ZM (Za ⟨g,0,Zb⟩) n cap).ownBlock≠Za m) (l++[(k,a)]) (xs++lB k a q):=by
 have key:∀m,N<=m->v.ownBlock≠Za m->m<w2.heap.size->w3.heap[m]?=w2.heap[m]?/\(N<=m/\(ZM (Za ⟨g,0,Zb⟩) n cap).ownBlock≠Za m):=by
  intro m h1 h2 h3;refine⟨an.block m h3 (λe=>h2 e.symm),h1,?_⟩;intro e;have e:g=m:=by simpa[ZI]using e
  subst e;rcases hg with h|h
  .exact h2 h
  .omega
 refine kc.snoc (hq.keep ?_) (hT.keep ?_)
 .intro m o hm ho;exact key m (by omega) (λe=>by have:=ai m e;omega) (al ho)
 .intro m o ⟨h1,h2⟩ ho;have hm:=al ho;obtain⟨r1,r2⟩:=key m h1 h2 (by omega);exact⟨r1.trans (hb m hm),r2⟩
theorem QH{j i:O}(hj:j<=u.size):(u.extract j u.size).size=u.size-j:=by simp[Zd.size_extract]
def aaP(u:Zd)(w:Zh)(g:O)(lv:Zg)(i:O)(l0:Zc (aj×O))(xs:Zc Zg)(wr:Zh):Prop:=
 Zv w.heap.size w wr/\w.heap.size<=wr.heap.size/\u.size<i+g/\l0.length<=i/\l0++js u g i=toks u/\wr.ownsRow w.heap.size 128 5 lv l0.length xs/\kc wr (λm=>w.heap.size<=m/\lv.ownBlock≠Za m) l0 xs
theorem Aa{w1:Zh}{sz:O}(h:w.ownsRow N e sz v n xs)(hb:Zv w.heap.size w w1):w1.ownsRow N e sz v n xs:=
 ZN (row:=Zb) h ⟨hb.os,hb.tape,hb.output,hb.size,λk hk _=>hb.block k hk⟩ (by cases v.ownBlock <;> simp)
theorem ajL(u:Zd)(w:Zh)(hs:u.size<=1000):
 Zm prog 58 #[.string u] w λe w'=>∃v,e=.returned v/\Zv w.heap.size w w'/\XX (qy w' w.heap.size (λm=>w.heap.size<=m/\v.ownBlock≠Za m) v (toks u)):=by
 go_enter func58,ntmps58;go_wp2_with fail;go_loopg [3,4] (u.size+1) (λg lv iv wr=>∃i l0 xs,i<=u.size/\iv=.int .i64 (i:O)/\aaP u w g lv i l0 xs wr)
 case atStart=>exact⟨0,[],[],by omega,rfl,Zq _ _,Zl _,by omega,by simp,rfl,Zh.ownsRow_nil _ _ _ _,rfl⟩
 case round=>
  obtain⟨i,l0,xs,fX,rfl,hT⟩:=hrel;obtain⟨f,rfl⟩:∃f,gk=f+1:=⟨gk-1,by have:=hT.2.2.1;omega⟩
  have HT:=aa hT;clear hT;go_wp2_with fail;go_loopg [4] (u.size-i) (λh iv wr'=>wr=wr'/\∃j:O,i<=j/\j<=u.size/\h=u.size-j/\iv=.int .i64 j/\ak u j=ak u i)
  case atStart=>exact⟨rfl,i,Zl _,fX,rfl,rfl,rfl⟩
  case round=>
   obtain⟨rfl,j,ej,fY,hh,rfl,eQ⟩:=hrel;have HH:=aa hh;have pJ:XX (ak u j=ak u i):=eQ;clear hh eQ;have b1:(0:Ze)<=(j:Ze):=by omega
   obtain⟨ba,aH,p8,gG,hF,am,qF⟩:=HT.o;have HF:=aa hF;have jS:=aa am;have Dc:=aa qF;have wE:=aa ba;have az:l0.length<=100000:=by omega
   clear ba hF am qF;by_cases dy:j=u.size
   .have HE:XX (ak u i=j):=by show _=_;rw[<-pJ.o];exact uH (by rw[nS (by omega)];rfl)
    have eY:XX (toks u=l0++[(wB,j)]):=by show _=_;rw[<-HF.o,js,HE.o,Zk dy]
    have ai:¬((j:Ze)<(u.size:Ze)):=by omega
    have ul:((j:Ze)==(u.size:Ze))=Zj:=beq_iff_eq.2 (by omega);clear dy;go_wp2_with (at_builtin;refine Pq rfl (.tmp 41) (.tmp 44) rfl w.heap.size _ l0.length xs rfl ?h1 _ _ wB j Zb rfl ?h2 ?h3 ?h4 (wr.heap.size+1) ?h5 ?_)
    case h1=>exact jS.o.alloc _
    case h2=>exact λ_ _ h=>h
    case h4=>omega
    intro g cap w3 bz aP lu un;have qZ:=aa bz;have lc:=aa (Vc (n:=l0.length+1) (cap:=cap) (g:=g) (M:=wr.heap.size) (k:=wB) (a:=j) (q:=Zb) Dc.o (λb hb=>(ZC jS.o b hb).2) (λm hm=>ZE _ _ _ hm) (by simp) (by rfl) aH aP (lu.imp_right λh=>by simp;omega));have bo:XX (Zv w.heap.size w w3):=(wE.o.alloc aH _).grown aP (by simp;omega) (λb hb=>(ZC jS.o b hb).1);clear bz aP lu un;go_wp2;go_ret;refine⟨_,rfl,bo.o,?_⟩;show qy _ _ _ _ _;rw[eY.o];exact⟨_,by rw[Zy];exact qZ.o,lc.o⟩
   .have nX:j<u.size:=by omega
    have ai:(j:Ze)<(u.size:Ze):=by omega
    have ul:((j:Ze)==(u.size:Ze))=Zf:=Zp.2 (by omega);have hg:=ew nX;obtain⟨c,hc⟩:∃c,c=((u[j]'nX).toNat:Ze):=⟨_,rfl⟩
    have HC:XX (((u[j]'nX).toNat:Ze)=c):=hc.symm;have HG:XX (gb u j=c):=by show _=_;rw[hg,hc]
    clear hg hc dy;by_cases mG:kT c=Zj
    .have HN:XX (ak u (j+1)=ak u i):=by show _=_;rw[<-pJ.o];exact(Ak (by rw[HG.o];exact mG)).symm
     have sP:c=32\/c=9\/c=10\/c=13:=by simpa[kT,or_assoc]using mG
     clear mG;rcases sP with h|h|h|h
     .have e0:(((u[j]'nX).toNat:Ze)==32)=Zj:=by rw[HC.o,h];rfl
      clear h;go_wp2;go_roundg (u.size-(j+1))
      case measure=>rw[HH.o];omega
      case rel=>exact⟨rfl,j+1,by omega,by omega,rfl,by go_num,HN.o⟩
     .have e0:(((u[j]'nX).toNat:Ze)==32)=Zf:=by rw[HC.o,h];rfl
      have e1:(((u[j]'nX).toNat:Ze)==9)=Zj:=by rw[HC.o,h];rfl
      clear h;go_wp2;go_roundg (u.size-(j+1))
      case measure=>rw[HH.o];omega
      case rel=>exact⟨rfl,j+1,by omega,by omega,rfl,by go_num,HN.o⟩
     .have e0:(((u[j]'nX).toNat:Ze)==32)=Zf:=by rw[HC.o,h];rfl
      have e1:(((u[j]'nX).toNat:Ze)==9)=Zf:=by rw[HC.o,h];rfl
      have e2:(((u[j]'nX).toNat:Ze)==10)=Zj:=by rw[HC.o,h];rfl
      clear h;go_wp2;go_roundg (u.size-(j+1))
      case measure=>rw[HH.o];omega
      case rel=>exact⟨rfl,j+1,by omega,by omega,rfl,by go_num,HN.o⟩
     .have e0:(((u[j]'nX).toNat:Ze)==32)=Zf:=by rw[HC.o,h];rfl
      have e1:(((u[j]'nX).toNat:Ze)==9)=Zf:=by rw[HC.o,h];rfl
      have e2:(((u[j]'nX).toNat:Ze)==10)=Zf:=by rw[HC.o,h];rfl
      have e3:(((u[j]'nX).toNat:Ze)==13)=Zj:=by rw[HC.o,h];rfl
      clear h;go_wp2;go_roundg (u.size-(j+1))
      case measure=>rw[HH.o];omega
      case rel=>exact⟨rfl,j+1,by omega,by omega,rfl,by go_num,HN.o⟩
    .have HE:XX (ak u i=j):=by show _=_;rw[<-pJ.o];exact uH (by rw[HG.o];simpa using mG)
     have sP:c≠32/\c≠9/\c≠10/\c≠13:=by simpa[kT,and_assoc]using mG
     have e0:(((u[j]'nX).toNat:Ze)==32)=Zf:=by rw[HC.o];exact Zp.2 sP.1
     have e1:(((u[j]'nX).toNat:Ze)==9)=Zf:=by rw[HC.o];exact Zp.2 sP.2.1
     have e2:(((u[j]'nX).toNat:Ze)==10)=Zf:=by rw[HC.o];exact Zp.2 sP.2.2.1
     have e3:(((u[j]'nX).toNat:Ze)==13)=Zf:=by rw[HC.o];exact Zp.2 sP.2.2.2
     clear sP mG;obtain⟨U,hU⟩:∃U,U=u.extract j u.size:=⟨_,rfl⟩
     have Rb:U.size=u.size-j:=by rw[hU];exact QH (i:=0) fY
     have Q9:=ajF U wr (by omega) (by omega);have gW:=N6 (u:=U) (by omega);have HU:XX (U=u.extract j u.size):=hU;have HTO:=aa Q9;obtain⟨K,z,hK⟩:∃K z,aD U=(K,z):=⟨_,_,rfl⟩
     have HK:XX (aD U=(K,z)):=hK;rw[hK]at gW;simp only at gW;have pL:XX (toks u=l0++(if z=0 then[(K,j)]else(K,j)::js u f (j+z))):=by
      show _=_;rw[<-HF.o,js,HE.o,Zi (by omega),<-hU,hK]
     rw[Rb]at gW;clear Q9 hU hK Rb;go_wp2_with fail;rw[<-HU.o];refine Zn HTO.o ?_;rintro e w1 ⟨t,rfl,ae,cH⟩;rw[HK.o]at cH⊢;have ie:=aa cH.o;simp only at ie⊢;obtain⟨q,hq,Sh⟩:=ie.o.parts;have HQV:=aa Sh;rw[hq,bD];have aT:=aa ae;have dE:wr.heap.size<=w1.heap.size:=ae.size;have HO1:XX (w1.ownsRow w.heap.size 128 5 u3 l0.length xs):=by
      exact Aa jS.o ae
     clear hq Sh ie cH ae;go_wp2_with (at_builtin;refine Pq rfl (.tmp 55) (.tmp 57) rfl w.heap.size _ l0.length xs rfl ?k1 _ _ K j q rfl ?k2 ?k3 ?k4 (w1.heap.size+2) ?k5 ?_)
     case k1=>exact(HO1.o.alloc _).alloc _
     case k2=>exact ajE (by simp)
     case k3=>exact az
     case k4=>simp;omega
     case k5=>simp
     intro g cap w3 bz aP lu un;have qZ:=aa bz;have lc:=aa (Vc (n:=l0.length+1) (cap:=cap) (g:=g) (M:=wr.heap.size) (k:=K) (a:=j) (q:=q) Dc.o (λb hb=>(ZC jS.o b hb).2)
      (λm hm=>((((Zq _ w1).alloc dE _).alloc (by simp;omega) _).block m hm).trans (aT.o.block m hm)) (by simp;omega)
      (HQV.o.keep (λm o hm ho=>⟨(((Zq _ w1).alloc (Zl _) _).alloc (by simp) _).block m (al ho),hm⟩)) aH aP (lu.imp_right λh=>by simp;omega))
     have bo:XX (Zv w.heap.size w w3):=(((wE.o.trans (aT.o.mono aH)).alloc (by omega) _).alloc (by simp;omega) _).grown aP (by simp;omega) (λb hb=>(ZC jS.o b hb).1);have eC:w.heap.size<=w3.heap.size:=by have:=aP.size;simp at this;omega
     clear bz aP lu un e0 e1 e2 e3 ul;by_cases hz:z=0
     .have eY:XX (toks u=l0++[(K,j)]):=by show _=_;rw[pL.o,Zk hz]
      subst hz;go_wp2;go_ret;refine⟨_,rfl,bo.o,?_⟩;show qy _ _ _ _ _;rw[eY.o];exact⟨_,by rw[Zy];exact qZ.o,lc.o⟩
     .have eY:XX ((l0++[(K,j)])++js u f (j+z)=toks u):=by show _=_;rw[pL.o,Zi hz];simp
      have ip:((z:Ze)==0)=Zf:=Zp.2 (by omega);have ee:1<=z:=by omega
      clear hz;go_wp2;go_roundg f
      case measure=>omega
      case rel=>exact⟨j+z,l0++[(K,j)],_,by omega,by go_num,bo.o,eC,by omega,by rw[Zy];simp;omega,eY.o,by rw[Zy];exact qZ.o,lc.o⟩
def ub(g n cap:O)(i d:O)(bad:Ze):Obj:=.cells #[.slice (Za ⟨g,0,Zb⟩) n cap,.int .i64 i,.int .i64 d,.int .i64 bad] 124
def Ki(o:Obj):Prop:=∀c f,o≠.cells c 136 f
structure ax(w:Zh)(V:O->Prop)(b g cap:O)(T:Zc (aj×O))(i d:O)(bad:Ze):Prop where
 blk:w.heap[b]?=Za (ub g T.length cap i d bad)
 row:qy w 0 V (.slice (Za ⟨g,0,Zb⟩) T.length cap) T
 ne:g≠b
 v:∀m,V m->m≠b
 len:T.length<=200
 il:i<T.length
 dl:d<=1000
 bad1:-1<=bad
 last:∀(k:O) (x:aj×O),T[k]?=Za x->k+1=T.length->x.1.kind=101\/x.1.kind=120
 ats:∀(k:O) (x:aj×O),T[k]?=Za x->x.2<=1000
 vt:∀m,V m->∃o,w.heap[m]?=Za o/\Ki o
theorem qy.cells(h:qy w N A (.slice (Za ⟨g,0,Zb⟩) n cap) T){k:O}{t:aj}(ht:T[k]?=Za (t,a)):
 ∃q,TV w A t q/\w.cell? ⟨g,k*5,Zb⟩=Za (.int .u8 t.kind)/\w.cell? ⟨g,k*5+1,Zb⟩=Za (.int .i64 a)/\w.cell? ⟨g,k*5+2,Zb⟩=Za (.string t.txt)/\w.cell? ⟨g,k*5+3,Zb⟩=Za (.int .i64 t.num)/\w.cell? ⟨g,k*5+4,Zb⟩=Za (.pointer q):=by
 obtain⟨xs,h1,h2⟩:=h;obtain⟨q,hq,hc⟩:=h2.get ht;have EH:=ZO h1 (g:=g) rfl;have key:∀j u,j<5->(lB t a q)[j]?=Za u->w.cell? ⟨g,k*5+j,Zb⟩=Za u:=by
  intro j u hj hu;have:=EH (k*5+j) u (by rw[hc j hj];exact hu);rw[Zx]at this;simpa using this
 exact⟨q,hq,key 0 _ (by omega) rfl,key 1 _ (by omega) rfl,key 2 _ (by omega) rfl,key 3 _ (by omega) rfl,key 4 _ (by omega) rfl⟩
def ag(T:Zc (aj×O))(k:O)(s:Zd):Zr:=match T[k]? with
 |some x=>decide (x.1.kind=115)&&decide (x.1.txt=s)
 |none=>Zf
theorem gE(hb:w.heap[b]?=Za (ub g n cap i d bad)):
 w.cell? ⟨b,0,Zb⟩=Za (.slice (Za ⟨g,0,Zb⟩) n cap)/\w.cell? ⟨b,1,Zb⟩=Za (.int .i64 i)/\w.cell? ⟨b,2,Zb⟩=Za (.int .i64 d)/\w.cell? ⟨b,3,Zb⟩=Za (.int .i64 bad)/\∀o,w.frozen? ⟨b,o,Zb⟩=Zf:=by
 unfold ub at hb;refine⟨?_,?_,?_,?_,?_⟩
 .simp[Zt,hb]
 .simp[Zt,hb]
 .simp[Zt,hb]
 .simp[Zt,hb]
 .intro o;simp[Zh.frozen?,hb]
def bE(T:Zc (aj×O))(k:O):O:=match T[k]? with
 |some x=>x.2
 |none=>0
theorem qy.but(h:qy w 0 V (.slice (Za ⟨g,0,Zb⟩) n cap) T)(hb:ab b w w')(bj:g≠b)(hv:∀m,V m->m≠b):qy w' 0 V (.slice (Za ⟨g,0,Zb⟩) n cap) T:=by
 obtain⟨xs,h1,h2⟩:=h;refine⟨xs,ZN h1 hb (Or.inr (by simpa[ZI]using bj)),h2.keep ?_⟩;intro m o hm ho;exact⟨hb.block m (al ho) (by simpa using hv m hm),hm⟩
theorem ax.to{i' d':O}{bad':Ze}(h:ax w V b g cap T i d bad)(hb:ab b w w')(cd:w'.heap[b]?=Za (ub g T.length cap i' d' bad'))(hi:i'<T.length)(hd:d'<=1000)(bU:-1<=bad'):ax w' V b g cap T i' d' bad':=
 ⟨cd,h.row.but hb h.ne h.v,h.ne,h.v,h.len,hi,hd,bU,h.last,h.ats,λm hm=>by obtain⟨o,ho,hn⟩:=h.vt m hm;exact⟨o,(hb.block m (al ho) (by simpa using h.v m hm)).trans ho,hn⟩⟩
theorem uf(hb:w.heap[b]?=Za (ub g n cap i d bad))(i':O):(w.setCell ⟨b,1,Zb⟩ (.int .i64 i')).heap[b]?=Za (ub g n cap i' d bad):=cY hb _
theorem GU(hb:w.heap[b]?=Za (ub g n cap i d bad))(d':O):(w.setCell ⟨b,2,Zb⟩ (.int .i64 d')).heap[b]?=Za (ub g n cap i d' bad):=cY hb _
theorem acy(hb:w.heap[b]?=Za (ub g n cap i d bad))(bad':Ze):(w.setCell ⟨b,3,Zb⟩ (.int .i64 bad')).heap[b]?=Za (ub g n cap i d bad'):=cY hb _
theorem tz(h:ax w V b g cap T i d bad){s:Zd}{k:O}(hs:ag T k s=Zj):k+1<T.length:=by
 unfold ag at hs;cases hx:T[k]? with
 |none=>rw[hx]at hs;simp at hs
 |some x=>
  rw[hx]at hs;have hk:=(Zc.getElem?_eq_some_iff.1 hx).1;have h1:x.1.kind=115:=by simp at hs;exact hs.1
  by_cases he:k+1=T.length
  .rcases h.last k x hx he with h2|h2 <;> omega
  .omega
theorem l6(h:ax w V b g cap T i d bad)(a:O)(ha:a<=2)(s:Zd):
 Zm prog 148 #[.pointer (Za ⟨b,0,Zb⟩),.int .i64 (a:O),.string s] w λe w'=>e=.returned (.bool (decide (bad<0)&&ag T (i+a) s))/\w'=w:=by
 obtain⟨g0,g1,g2,g3,gf⟩:=gE h.blk;have jL:=h.il;have az:=h.len;by_cases bU:bad<0
 .by_cases hk:i+a<T.length
  .obtain⟨x,hx⟩:∃x,T[i+a]?=Za x:=⟨T[i+a]'hk,ZG hk⟩
   obtain⟨t,at'⟩:=x;obtain⟨q,_,c0,c1,c2,c3,c4⟩:=h.row.cells hx;have dD:(decide (bad<0)&&ag T (i+a) s)=(decide (t.kind=115)&&decide (t.txt=s)):=by simp[ag,hx,bU]
   rw[dD];clear h hx dD;have k1:((i:Ze)+(a:Ze))<(T.length:Ze):=by omega
   by_cases h1:t.kind=115
   .by_cases h2:t.txt=s
    .rw[ZJ h1,ZJ h2];have e2:=xU h2;clear h2;go_enter func148,ntmps148;go_wp2;go_ret;exact⟨rfl,rfl⟩
    .rw[ZJ h1,ZD h2];have e2:=ww h2;clear h2;go_enter func148,ntmps148;go_wp2;go_ret;exact⟨rfl,rfl⟩
   .rw[ZD h1];go_enter func148,ntmps148;go_wp2;go_ret;exact⟨rfl,rfl⟩
  .have dD:(decide (bad<0)&&ag T (i+a) s)=Zf:=by simp[ag,Zc.getElem?_eq_none (by omega:T.length<=i+a)]
   rw[dD];clear h dD;have k1:¬(((i:Ze)+(a:Ze))<(T.length:Ze)):=by omega
   clear hk;go_enter func148,ntmps148;go_wp2;go_ret;exact⟨rfl,rfl⟩
 .have dD:(decide (bad<0)&&ag T (i+a) s)=Zf:=by simp[bU]
  rw[dD];clear h dD;go_enter func148,ntmps148;go_wp2;go_ret;exact⟨rfl,rfl⟩
theorem yW(h:ax w V b g cap T i d bad):
 Zm prog 60 #[.pointer (Za ⟨b,0,Zb⟩)] w λe w'=>e=.returned (.tuple #[])/\ab b w w'/\ax w' V b g cap T i d (if bad<0 then(bE T i:O)else bad):=by
 obtain⟨g0,g1,g2,g3,gf⟩:=gE h.blk;have HP:=aa h;have jL:=h.il;have az:=h.len;by_cases bU:bad<0
 .obtain⟨x,hx⟩:∃x,T[i]?=Za x:=⟨T[i]'jL,ZG jL⟩
  obtain⟨t,at'⟩:=x;obtain⟨q,_,c0,c1,c2,c3,c4⟩:=h.row.cells hx;have HA:XX (bE T i=at'):=by show _=_;simp[bE,hx]
  rw[Zk bU];clear h hx;go_enter func60,ntmps60;go_wp2
  go_region
  all_goals
   go_wp2
   go_end0
   have ar:ab b w (w.setCell ⟨b,3,Zb⟩ (.int .i64 at')).drew:=((ab.refl b w).setCell _ _).drew;exact⟨rfl,ar,HP.o.to ar (by rw[HA.o];exact acy HP.o.blk _) HP.o.il HP.o.dl (by omega)⟩
 .rw[Zi bU];clear h;go_enter func60,ntmps60;go_wp2
  go_end0
  exact⟨rfl,ab.refl _ _,HP.o⟩
theorem kH(h:ax w V b g cap T i d bad)(s:Zd){B:Zr}(hB:(decide (bad<0)&&ag T i s)=B):
 Zm prog 97 #[.pointer (Za ⟨b,0,Zb⟩),.string s] w λe w'=>e=.returned (.bool B)/\ab b w w'/\ax w' V b g cap T (if B then i+1 else i) d bad:=by
 obtain⟨g0,g1,g2,g3,gf⟩:=gE h.blk;have HP:=aa h;have jL:=h.il;have az:=h.len;have HS:=aa (l6 h 0 (by omega) s);have ic:=aa hB;clear h hB;go_enter func97,ntmps97;go_wp2_with fail;refine Zn HS.o ?_;rintro e w1 ⟨rfl,rfl⟩;rw[O.add_zero,ic.o];cases B
 .go_wp2;go_ret;exact⟨rfl,ab.refl _ _,HP.o⟩
 .go_wp2;go_ret;have ar:ab b w1 (w1.setCell ⟨b,1,Zb⟩ (.int .i64 ((i:Ze)+1))):=(ab.refl b w1).setCell _ _;refine⟨rfl,ar,HP.o.to ar (uf HP.o.blk (i+1)) (tz HP.o (by have:=ic.o;simp at this;exact this.2)) HP.o.dl HP.o.bad1⟩
theorem Qo(h:ax w V b g cap T i d bad)(s:Zd){B:Zr}(hB:(decide (bad<0)&&ag T i s)=B):
 Zm prog 239 #[.pointer (Za ⟨b,0,Zb⟩),.string s] w λe w'=>e=.returned (.tuple #[])/\ab b w w'/\ax w' V b g cap T (if B then i+1 else i) d (if B then bad else if bad<0 then(bE T i:O)else bad):=by
 have HS:=aa (kH h s hB);obtain⟨i',oX⟩:∃i',i'=if B then i+1 else i:=⟨_,rfl⟩
 obtain⟨bad',vr⟩:∃bad',bad'=if B then bad else if bad<0 then(bE T i:Ze)else bad:=⟨_,rfl⟩
 rw[<-oX,<-vr];have HI:=aa oX;have yb:=aa vr;clear h hB oX vr;go_enter func239,ntmps239;go_wp2_with fail;refine Zn HS.o ?_;rintro e w1 ⟨rfl,ar,hp⟩;have HP:=aa hp;have dI:=aa ar;clear ar hp;cases B
 .have HF:=aa (yW HP.o);go_wp2_with fail;refine Zn HF.o ?_;rintro e w2 ⟨rfl,ce,bb⟩;have gd:=aa bb;have lE:=aa ce;clear ce bb;go_wp2
  go_end0
  have e1:i'=i:=by rw[HI.o];rfl
  have e2:bad'=if bad<0 then(bE T i:Ze)else bad:=by rw[yb.o];rfl
  exact⟨rfl,dI.o.trans lE.o,by rw[e1,e2];exact gd.o⟩
 .go_wp2
  go_end0
  have e1:i'=i+1:=by rw[HI.o];rfl
  have e2:bad'=bad:=by rw[yb.o];rfl
  exact⟨rfl,dI.o,by rw[e1,e2];exact HP.o⟩
theorem uc(h:ax w V b g cap T i (d+1) bad)(s:Zd){B:Zr}(hB:(decide (bad<0)&&ag T i s)=B):
 Zm prog 222 #[.pointer (Za ⟨b,0,Zb⟩),.string s] w λe w'=>e=.returned (.tuple #[])/\ab b w w'/\ax w' V b g cap T (if B then i+1 else i) d (if B then bad else if bad<0 then(bE T i:O)else bad):=by
 have jG:=Qo h s hB;obtain⟨i',oX⟩:∃i',i'=if B then i+1 else i:=⟨_,rfl⟩
 obtain⟨bad',vr⟩:∃bad',bad'=if B then bad else if bad<0 then(bE T i:Ze)else bad:=⟨_,rfl⟩
 rw[<-oX,<-vr]at jG⊢;have HS:=aa jG;clear h hB oX vr jG;go_enter func222,ntmps222;go_wp2_with fail;refine Zn HS.o ?_;rintro e w1 ⟨rfl,ar,hp⟩;obtain⟨g0,g1,g2,g3,gf⟩:=gE hp.blk;have HP:=aa hp;have dI:=aa ar;have hd:=hp.dl;clear ar hp g0 g1 g3;go_wp2
 go_end0
 have ar:ab b w1 (w1.setCell ⟨b,2,Zb⟩ (.int .i64 (d:Ze))):=(ab.refl b w1).setCell _ _;exact⟨rfl,dI.o.trans ar,HP.o.to ar (GU HP.o.blk d) HP.o.il (by omega) HP.o.bad1⟩
theorem Qj(h:ax w V b g cap T i 12 (-1)):
 Zm prog 149 #[.pointer (Za ⟨b,0,Zb⟩)] w λe w'=>e=.returned (.tuple #[])/\ab b w w'/\ax w' V b g cap T i 13 (bE T i:O):=by
 obtain⟨g0,g1,g2,g3,gf⟩:=gE h.blk;have HP:=aa h;have iz:=yW h;rw[Zk (by omega)]at iz;have HF:=aa iz;clear h iz;go_enter func149,ntmps149;go_wp2_with fail;refine Zn HF.o ?_;rintro e w1 ⟨rfl,ar,hp⟩;obtain⟨f0,f1,f2,f3,ff⟩:=gE hp.blk;have aX:=aa hp;have dI:=aa ar;have hn:¬((bE T i:Ze)<0):=by omega
 clear ar hp g0 g1 g2 g3 gf;go_wp2
 go_end0
 have ar:ab b w1 (w1.setCell ⟨b,2,Zb⟩ (.int .i64 ((13:O):Ze))):=(ab.refl b w1).setCell _ _;exact⟨rfl,dI.o.trans ar,aX.o.to ar (GU aX.o.blk 13) aX.o.il (by omega) aX.o.bad1⟩
theorem Qk(h:ax w V b g cap T i d (-1))(hd:d<12)(hi:i+1<T.length):
 Zm prog 149 #[.pointer (Za ⟨b,0,Zb⟩)] w λe w'=>e=.returned (.tuple #[])/\ab b w w'/\ax w' V b g cap T (i+1) (d+1) (-1):=by
 obtain⟨g0,g1,g2,g3,gf⟩:=gE h.blk;have HP:=aa h;have az:=h.len;clear h;have e12:((d:Ze)==12)=Zf:=Zp.2 (by omega);go_enter func149,ntmps149;go_wp2
 go_end0
 have ar:ab b w ((w.setCell ⟨b,1,Zb⟩ (.int .i64 ((i:Ze)+1))).setCell ⟨b,2,Zb⟩ (.int .i64 ((d:Ze)+1))):=((ab.refl b w).setCell _ _).setCell _ _;exact⟨rfl,ar,HP.o.to ar (GU (uf HP.o.blk (i+1)) (d+1)) hi (by omega) (by omega)⟩
inductive Nd where
 |mk (op:Zd) (at':O) (s:Zd) (names:Zc Zd) (l:Zc Nd) (n0 n1 n2:Ze) (i0 i1 i2:Zr) (v:Zo (VT 12))
def Nd.op:Nd->Zd
 |.mk op _ _ _ _ _ _ _ _ _ _ _=>op
def dn(op:Zd)(l:Zc Nd):Nd:=.mk op 0 ⟨#[]⟩ [] l 0 0 0 Zf Zf Zf Zb
def tq(op s:Zd):Nd:=.mk op 0 s [] [] 0 0 0 Zf Zf Zf Zb
def nH(op:Zd):Nd:=dn op []
def CI:Zd:=⟨#[124]⟩
def Ai:Zd:=⟨#[124,124]⟩
def xR:Zd:=⟨#[38,38]⟩
def jk:Zd:=⟨#[33]⟩
def fa:Zd:=⟨#[46]⟩
def lA:Zd:=⟨#[64]⟩
def eV:Zd:=⟨#[42]⟩
def eF:Zd:=⟨#[38]⟩
def kX:Zd:=⟨#[44]⟩
def fo:Zd:=⟨#[58]⟩
def kW:Zd:=⟨#[63]⟩
def mX:Zd:=⟨#[40]⟩
def kq:Zd:=⟨#[41]⟩
def iu:Zd:=⟨#[91]⟩
def eU:Zd:=⟨#[93]⟩
def wu:Zd:=⟨#[123]⟩
def Ah:Zd:=⟨#[125]⟩
def rX:Zd:=⟨#[116,101,120,116]⟩
def kr:Zd:=⟨#[99,111,110,115,116]⟩
def oP:Zd:=⟨#[110,97,109,101]⟩
def eX:Zd:=⟨#[99,97,108,108]⟩
def m8:Zd:=⟨#[108,105,115,116]⟩
def fi:Zd:=⟨#[111,98,106,101,99,116]⟩
def qj:Zd:=⟨#[102,108,97,116]⟩
def pA:Zd:=⟨#[116,104,105,110,103,115]⟩
def om:Zd:=⟨#[102,105,108,116,101,114]⟩
def oO:Zd:=⟨#[97,116]⟩
def j7:Zd:=⟨#[115,108,105,99,101]⟩
def ii:Zc Zd:=[⟨#[61,61]⟩,⟨#[33,61]⟩,⟨#[60]⟩,⟨#[60,61]⟩,⟨#[62]⟩,⟨#[62,61]⟩]
def tB:Zc Zd:=[eV,oO,j7,pA,qj,om]
abbrev PR:=Zw O (Nd×O)
abbrev bc:=Zo ((O->PR)×(O->PR))
def bp(T:Zc (aj×O))(k:O):aj:=match T[k]? with
 |some x=>x.1
 |none=>⟨0,⟨#[]⟩,0,Zb⟩
def gY(T:Zc (aj×O))(s:Zd)(x:Nd)(i:O):PR:=if ag T i s then .ok (x,i+1)else .error (bE T i)
def ly(T:Zc (aj×O))(part:O->PR)(s:Zd):O->Nd->O->PR
 |0,x,i=>.ok (x,i)
 |f+1,x,i=>if ag T i s then(match part (i+1)with
  |.error e=>.error e
  |.ok y=>ly T part s f (dn s [x,y.1]) y.2)else .ok (x,i)
def iF(T:Zc (aj×O))(s:Zd)(part:O->PR)(i:O):PR:=match part i with
 |.error e=>.error e
 |.ok x=>ly T part s T.length x.1 x.2
def dY(T:Zc (aj×O))(thing:O->Zw O (Zc Zd×Nd×O)):O->Zc Zd->Zc Nd->O->Zw O (Zc Zd×Zc Nd×O)
 |0,ks,l,i=>.ok (ks,l,i)
 |f+1,ks,l,i=>match thing i with
  |.error e=>.error e
  |.ok y=>if ag T y.2.2 kX then dY T thing f (ks++y.1) (l++[y.2.1]) (y.2.2+1)else .ok (ks++y.1,l++[y.2.1],y.2.2)
def ke(T:Zc (aj×O))(ex:O->PR)(i:O):Zw O (Zc Zd×Nd×O):=
 if ag T i eF then(match ex (i+1)with
  |.error e=>.error e
  |.ok x=>.ok ([],dn eF [x.1],x.2))
 else(match ex i with
  |.error e=>.error e
  |.ok x=>.ok ([],x.1,x.2))
def kn(ex:O->PR)(i:O):Zw O (Zc Zd×Nd×O):=match ex i with
 |.error e=>.error e
 |.ok x=>.ok ([],x.1,x.2)
def ji(T:Zc (aj×O))(ex:O->PR)(i:O):Zw O (Zc Zd×Nd×O):=
 if(bp T i).kind=119\/(bp T i).kind=113 then
  (if ag T (i+1) fo then(match ex (i+2)with
   |.error e=>.error e
   |.ok x=>.ok ([(bp T i).txt],x.1,x.2))else .error (bE T (i+1)))
 else .error (bE T i)
def mx(T:Zc (aj×O))(inn:bc)(i:O):PR:=match inn with
 |none=>.error (bE T (i+1))
 |some f=>
  if ag T (i+2) kq then .ok (.mk eX (bE T i) (bp T i).txt [] [] 0 0 0 Zf Zf Zf Zb,i+3)
  else match dY T (ke T f.2) T.length [] [] (i+2)with
   |.error e=>.error e
   |.ok y=>gY T kq (.mk eX (bE T i) (bp T i).txt [] y.2.1 0 0 0 Zf Zf Zf Zb) y.2.2
def ko(T:Zc (aj×O))(inn:bc)(i:O):PR:=match inn with
 |none=>.error (bE T i)
 |some f=>match dY T (kn f.2) T.length [] [] (i+1)with
  |.error e=>.error e
  |.ok y=>gY T eU (dn m8 y.2.1) y.2.2
def oj(T:Zc (aj×O))(inn:bc)(i:O):PR:=match inn with
 |none=>.error (bE T i)
 |some f=>match dY T (ji T f.2) T.length [] [] (i+1)with
  |.error e=>.error e
  |.ok y=>gY T Ah (.mk fi 0 ⟨#[]⟩ y.1 y.2.1 0 0 0 Zf Zf Zf Zb) y.2.2
def aZ(T:Zc (aj×O))(i:O):Ze×Zr×O:=if(bp T i).kind=110 then((bp T i).num,Zj,i+1)else(0,Zf,i)
def fH(T:Zc (aj×O))(f:(O->PR)×(O->PR))(i:O):PR:=
 if ag T i eU then .ok (nH qj,i)
 else if ag T i eV then .ok (nH pA,i+1)
 else if ag T i kW then(match f.2 (i+1)with
  |.error e=>.error e
  |.ok x=>.ok (dn om [x.1],x.2))
 else if ag T (aZ T i).2.2 fo then
  (if ag T (aZ T ((aZ T i).2.2+1)).2.2 fo then
   (if(bp T ((aZ T ((aZ T i).2.2+1)).2.2+1)).kind=110/\(bp T ((aZ T ((aZ T i).2.2+1)).2.2+1)).num=0 then .error (bE T ((aZ T ((aZ T i).2.2+1)).2.2+1))
   else .ok (.mk j7 0 ⟨#[]⟩ [] [] (aZ T i).1 (aZ T ((aZ T i).2.2+1)).1 (if(aZ T ((aZ T ((aZ T i).2.2+1)).2.2+1)).2.1 then(aZ T ((aZ T ((aZ T i).2.2+1)).2.2+1)).1 else 1) (aZ T i).2.1 (aZ T ((aZ T i).2.2+1)).2.1 Zj Zb,(aZ T ((aZ T ((aZ T i).2.2+1)).2.2+1)).2.2))
  else .ok (.mk j7 0 ⟨#[]⟩ [] [] (aZ T i).1 (aZ T ((aZ T i).2.2+1)).1 1 (aZ T i).2.1 (aZ T ((aZ T i).2.2+1)).2.1 Zj Zb,(aZ T ((aZ T i).2.2+1)).2.2))
 else if(aZ T i).2.1 then .ok (.mk oO 0 ⟨#[]⟩ [] [] (aZ T i).1 0 0 Zj Zf Zf Zb,(aZ T i).2.2)
 else .error (bE T i)
def jy(T:Zc (aj×O))(inn:bc)(i:O):PR:=match inn with
 |none=>.error (bE T i)
 |some f=>match fH T f (i+1)with
  |.error e=>.error e
  |.ok x=>gY T eU x.1 x.2
def fR(T:Zc (aj×O))(inn:bc)(i:O):PR:=
 if(bp T i).kind=119/\ag T (i+1) mX=Zj then mx T inn i
 else if(bp T i).kind=119\/(bp T i).kind=113 then .ok (tq oP (bp T i).txt,i+1)
 else if ag T i eV then .ok (nH eV,i+1)
 else if ag T i wu then oj T inn i
 else .error (bE T i)
def DV(T:Zc (aj×O))(i:O):Zr:=
 ag T (i+1) eV&&ag T (i+2) eU || ag T (i+1) eU || ag T (i+1) kW || ag T (i+1) fo || decide ((bp T (i+1)).kind=110)
def fx(T:Zc (aj×O))(inn:bc)(i:O):PR:=
 if(bp T i).kind=114 then .ok (tq rX (bp T i).txt,i+1)
 else if(bp T i).kind=108 then .ok (.mk kr 0 ⟨#[]⟩ [] [] 0 0 0 Zf Zf Zf (bp T i).val,i+1)
 else if ag T i mX then(match inn with
  |none=>.error (bE T i)
  |some f=>match f.2 (i+1)with
   |.error e=>.error e
   |.ok x=>gY T kq (if ea tB x.1.op then dn fa [x.1]else x.1) x.2)
 else if ag T i iu then(if DV T i then jy T inn i else ko T inn i)
 else if ag T i lA then .ok (nH lA,i+1)
 else fR T inn i
def d7(T:Zc (aj×O))(inn:bc):O->Zc Nd->O->Zw O (Zc Nd×O)
 |0,l,i=>.ok (l,i)
 |f+1,l,i=>
  if ag T i fa then(match (if ag T (i+1) iu then ko T inn (i+1)else fR T inn (i+1))with
   |.error e=>.error e
   |.ok y=>d7 T inn f (l++[y.1]) y.2)
  else if ag T i iu then(match jy T inn i with
   |.error e=>.error e
   |.ok y=>d7 T inn f (l++[y.1]) y.2)
  else .ok (l,i)
def fb(T:Zc (aj×O))(inn:bc)(i:O):PR:=match fx T inn i with
 |.error e=>.error e
 |.ok x=>match d7 T inn T.length [x.1] x.2 with
  |.error e=>.error e
  |.ok y=>.ok (if y.1.length=1 then x.1 else dn fa y.1,y.2)
def ln(T:Zc (aj×O))(i:O):Zc Zd->Zo Zd
 |[]=>Zb
 |s::l=>if ag T i s then Za s else ln T i l
def fA(T:Zc (aj×O))(inn:bc)(i:O):PR:=
 if ag T i jk then(match inn with
  |none=>.error (bE T i)
  |some f=>match f.1 (i+1)with
   |.error e=>.error e
   |.ok x=>.ok (dn jk [x.1],x.2))
 else match fb T inn i with
  |.error e=>.error e
  |.ok x=>match ln T x.2 ii with
   |none=>.ok x
   |some s=>match fb T inn (x.2+1)with
    |.error e=>.error e
    |.ok y=>.ok (dn s [x.1,y.1],y.2)
def fm(T:Zc (aj×O))(inn:bc):O->O->PR
 |0=>fA T inn
 |1=>iF T xR (fA T inn)
 |2=>iF T Ai (iF T xR (fA T inn))
 |_=>iF T CI (iF T Ai (iF T xR (fA T inn)))
def bV(T:Zc (aj×O)):O->bc
 |0=>Zb
 |n+1=>Za (fA T (bV T n),fm T (bV T n) 3)
def bH(op:Zd)(a:O)(s:Zd)(names l:Zg)(n0 n1 n2:Ze)(i0 i1 i2:Zr)(v:Zg):Obj:=
 .cells #[.string op,.int .i64 a,.string s,names,l,.int .i64 n0,.int .i64 n1,.int .i64 n2,.bool i0,.bool i1,.bool i2,v] 136
def OV(w:Zh)(A:O->Prop)(v:Zo (VT 12))(q:Zo Zu):Prop:=match v with
 |none=>q=Zb
 |some v=>fV 12 v/\(aF 12 v).length<=900000/\br 12 w A v (.pointer q)
theorem OV.keep{v:Zo (VT 12)}(h:OV w A v q)(hk:∀i o,A i->w.heap[i]?=Za o->w'.heap[i]?=w.heap[i]?/\B i):OV w' B v q:=by
 cases v with
 |none=>exact h
 |some v=>exact⟨h.1,h.2.1,br.keep 12 h.2.2 hk⟩
theorem TV.ov(h:TV w A k q):OV w A k.val q:=h
mutual
def aJ(w:Zh)(A:O->Prop):Nd->Zg->Prop
 |.mk op a s names l n0 n1 n2 i0 i1 i2 v,p=>∃m nsl lsl ps q,p=.pointer (Za ⟨m,0,Zb⟩)/\A m/\w.heap[m]?=Za (bH op a s nsl lsl n0 n1 n2 i0 i1 i2 (.pointer q)) /\
  (ao w 9 nsl (kv names)/\∀g,nsl.ownBlock=Za g->A g)/\(ao w 68 lsl ps/\∀g,lsl.ownBlock=Za g->A g)/\cr w A l ps/\OV w A v q
def cr(w:Zh)(A:O->Prop):Zc Nd->Zc Zg->Prop
 |[],ps=>ps=[]
 |x::l,ps=>∃p ps',ps=p::ps'/\aJ w A x p/\cr w A l ps'
end
theorem ao.keepA(h:ao w e v xs/\∀g,v.ownBlock=Za g->A g)(hk:∀i o,A i->w.heap[i]?=Za o->w'.heap[i]?=w.heap[i]?/\B i):ao w' e v xs/\∀g,v.ownBlock=Za g->B g:=by
 have key:∀g,v.ownBlock=Za g->w'.heap[g]?=w.heap[g]?/\B g:=by
  intro g hg;have ai:=h.1.lt hg;exact hk g _ (h.2 g hg) (Array.getElem?_eq_getElem ai)
 exact⟨h.1.same (λk jo=>(key k jo).1),λg hg=>(key g hg).2⟩
mutual
theorem aJ.keep{w w':Zh}{A B:O->Prop}(hk:∀i o,A i->w.heap[i]?=Za o->w'.heap[i]?=w.heap[i]?/\B i):∀(x:Nd) (p:Zg),aJ w A x p->aJ w' B x p
 |.mk op a s names l n0 n1 n2 i0 i1 i2 v,p,h=>by
  unfold aJ at h⊢;obtain⟨m,nsl,lsl,ps,q,hp,hA,hb,hn,hl,hs,hv⟩:=h;exact⟨m,nsl,lsl,ps,q,hp,(hk m _ hA hb).2,(hk m _ hA hb).1.trans hb,ao.keepA hn hk,ao.keepA hl hk,cr.keep hk l ps hs,hv.keep hk⟩
theorem cr.keep{w w':Zh}{A B:O->Prop}(hk:∀i o,A i->w.heap[i]?=Za o->w'.heap[i]?=w.heap[i]?/\B i):∀(l:Zc Nd) (ps:Zc Zg),cr w A l ps->cr w' B l ps
 |[],ps,h=>by unfold cr at h⊢;exact h
 |x::l,ps,h=>by
  unfold cr at h⊢;obtain⟨p,ps',e,h1,h2⟩:=h;exact⟨p,ps',e,aJ.keep hk x p h1,cr.keep hk l ps' h2⟩
end
theorem cr.snoc{x:Nd}(hx:aJ w A x p):∀{l:Zc Nd} {ps:Zc Zg},cr w A l ps->cr w A (l++[x]) (ps++[p])
 |[],ps,h=>by
  unfold cr at h;subst h;rw[ZL,ZL];unfold cr;exact⟨p,[],rfl,hx,by unfold cr;rfl⟩
 |y::l,ps,h=>by
  unfold cr at h;obtain⟨p',ps',e,h1,h2⟩:=h;subst e;rw[ZK,ZK];unfold cr;exact⟨p',ps'++[p],rfl,h1,cr.snoc hx h2⟩
theorem cr.len:∀{l:Zc Nd} {ps:Zc Zg},cr w A l ps->ps.length=l.length
 |[],ps,h=>by unfold cr at h;subst h;rfl
 |y::l,ps,h=>by
  unfold cr at h;obtain⟨p',ps',e,h1,h2⟩:=h;subst e;simp[cr.len h2]
def gx(w:Zh)(M:O)(p:Zg):Prop:=∃m op a s nsl lsl n0 n1 n2 i0 i1 i2 v,p=.pointer (Za ⟨m,0,Zb⟩)/\M<=m/\w.heap[m]?=Za (bH op a s nsl lsl n0 n1 n2 i0 i1 i2 v)
def lS(F:O)(xs:Array Zg)(V:O->Prop)(b g cap:O)(T:Zc (aj×O))(d:O)(R:O->PR):Prop:=
 ∀(w:Zh) (i:O),ax w V b g cap T i d (-1)->(∀m,V m->m<w.heap.size)->Zm prog F (#[.pointer (Za ⟨b,0,Zb⟩)]++xs) w λe w'=>∃p,e=.returned p/\ab b w w' /\
  (
   (∃x j,XX (R i=.ok (x,j))/\i<=j/\ax w' V b g cap T j d (-1)/\XX (aJ w' (λm=>V m\/w.heap.size<=m) x p)) \/
   (∃(bad:O) (j:O),XX (R i=.error bad)/\ax w' V b g cap T j d (bad:Ze)/\XX (gx w' w.heap.size p)))
def wD(F:O)(xs:Array Zg)(V:O->Prop)(b g cap:O)(T:Zc (aj×O)):Prop:=
 ∀(w:Zh) (i d:O) (bad:Ze),ax w V b g cap T i d bad->0<=bad->d<900->Zm prog F (#[.pointer (Za ⟨b,0,Zb⟩)]++xs) w λe w'=>∃p,e=.returned p/\ab b w w'/\ax w' V b g cap T i d bad/\XX (gx w' w.heap.size p)
theorem ax.same(h:ax w V b g cap T i d bad)(hb:Zv w.heap.size w w'):ax w' V b g cap T i d bad:=
 h.to ((ab.refl b w).of_below hb) ((hb.block b (al h.blk)).trans h.blk) h.il h.dl h.bad1
theorem ax.alloc(h:ax w V b g cap T i d bad)(o:Obj):ax (w.alloc o) V b g cap T i d bad:=
 h.same ((Zq _ w).alloc (Zl _) _)
theorem gx.new(w:Zh)(op:Zd)(a:O)(s:Zd)(nsl lsl:Zg)(n0 n1 n2:Ze)(i0 i1 i2:Zr)(v:Zg):gx (w.alloc (bH op a s nsl lsl n0 n1 n2 i0 i1 i2 v)) w.heap.size (.pointer (Za ⟨w.heap.size,0,Zb⟩)):=
 ⟨w.heap.size,op,a,s,nsl,lsl,n0,n1,n2,i0,i1,i2,v,rfl,Zl _,aE rfl⟩
theorem gx.keep(h:gx w M p)(hk:∀m o,M<=m->w.heap[m]?=Za o->w'.heap[m]?=w.heap[m]?/\M'<=m):gx w' M' p:=by
 obtain⟨m,op,a,s,nsl,lsl,n0,n1,n2,i0,i1,i2,v,hp,hM,hb⟩:=h;exact⟨m,op,a,s,nsl,lsl,n0,n1,n2,i0,i1,i2,v,hp,(hk m _ hM hb).2,(hk m _ hM hb).1.trans hb⟩
theorem gx.but(h:gx w M p)(hb:ab b w w')(hbM:b<M)(hM:M'<=M):gx w' M' p:=
 h.keep (λm o hm ho=>⟨hb.block m (al ho) (by intro e;injection e with e;omega),by omega⟩)
theorem abQ(V:O->Prop)(b g cap:O)(T:Zc (aj×O)):wD 190 #[] V b g cap T:=by
 intro w i d bad h bU hd;obtain⟨g0,g1,g2,g3,gf⟩:=gE h.blk;have HP:=aa h;clear h;go_enter func190,ntmps190;go_wp2;go_ret;exact⟨_,rfl,(ab.refl b w).alloc _,HP.o.alloc _,gx.new w lA 0 ⟨#[]⟩ _ _ 0 0 0 Zf Zf Zf _⟩
theorem abO(V:O->Prop)(b g cap:O)(T:Zc (aj×O)):wD 150 #[] V b g cap T:=by
 intro w i d bad h bU hd;have HF:=aa (abQ V b g cap T w i d bad h bU hd);have aR:XX (b<w.heap.size):=al h.blk;clear h;go_enter func150,ntmps150;go_wp2_with fail;refine Zn HF.o ?_;rintro e w1 ⟨p,rfl,ar,hp,hn⟩;obtain⟨g0,g1,g2,g3,gf⟩:=gE hp.blk;have HP:=aa hp;have dI:=aa ar;have ali:XX (b<w1.heap.size):=al hp.blk;obtain⟨m,op,a,s,nsl,lsl,n0,n1,n2,i0,i1,i2,v,rfl,hM,hb⟩:=hn.o;have HN:=aa hn.o;clear hp ar hn hM hb g0 g1 g2 gf;go_wp2_with fail;go_loopg [4] 0 (λ_ lv wr=>lv=.slice (Za ⟨w1.heap.size,0,Zb⟩) 1 1/\ab b w wr/\ax wr V b g cap T i d bad/\gx wr w.heap.size (.pointer (Za ⟨m,0,Zb⟩)))
 case atStart=>exact⟨rfl,dI.o.alloc _,HP.o.alloc _,HN.o.keep (λk o hk ho=>⟨ZE _ _ _ (al ho),hk⟩)⟩
 case round=>
  obtain⟨rfl,aM,hp,hn⟩:=hrel;obtain⟨g0,g1,g2,g3,gf⟩:=gE hp.blk;have gd:=aa hp;have lE:=aa aM;have ja:=aa hn;clear aM hp hn g0 g1 g2 gf;go_wp2;go_ret;exact⟨_,rfl,lE.o,gd.o,ja.o⟩
theorem Qp(V:O->Prop)(b g cap:O)(T:Zc (aj×O)):wD 96 #[] V b g cap T:=by
 intro w i d bad h bU hd;have L9:¬(bad<0):=by omega
 have hS:=l6 h 0 (by omega) jk;rw[show(decide (bad<0)&&ag T (i+0) jk)=Zf by simp[L9]]at hS;have HS:=aa hS;have HF:=aa (abO V b g cap T w i d bad h bU hd);have aR:XX (b<w.heap.size):=al h.blk;clear h hS;go_enter func96,ntmps96;go_wp2_with fail;refine Zn HS.o ?_;rintro e w1 ⟨rfl,rfl⟩;go_wp2_with fail;refine Zn HF.o ?_;rintro e w2 ⟨p,rfl,ar,hp,hn⟩;have HP:=aa hp;have dI:=aa ar;obtain⟨m,op,a,s,nsl,lsl,n0,n1,n2,i0,i1,i2,v,rfl,hM,hb⟩:=hn.o;have HN:=aa hn.o;clear hp ar hn hM hb;go_wp2_with fail;go_loopg [7] 6 (λgh iv wr=>∃k:O,k<=6/\gh=6-k/\iv=.int .i64 k/\ab b w1 wr/\ax wr V b g cap T i d bad/\gx wr w1.heap.size (.pointer (Za ⟨m,0,Zb⟩))/\ao wr 9 (.slice (Za ⟨w2.heap.size,0,Zb⟩) 6 6) (kv ii)/\b<w2.heap.size)
 case atStart=>
  exact⟨0,by omega,rfl,rfl,dI.o.alloc _,HP.o.alloc _,HN.o.keep (λk o hk ho=>⟨ZE _ _ _ (al ho),hk⟩),wo w2 9 (kv ii) (by decide),al HP.o.blk⟩
 case round=>
  obtain⟨k,hk,EU,rfl,aM,hp,hn,aO,mG⟩:=hrel;have Gc:=aa EU;have gd:=aa hp;have lE:=aa aM;have ja:=aa hn;have dT:=aa aO;clear aM hp hn EU aO HN HP;by_cases mO:k<6
  .obtain⟨s',xB⟩:∃s',ii[k]?=Za s':=⟨ii[k]'mO,ZG mO⟩
   have ck:wr.cell? ⟨w2.heap.size,k,Zb⟩=Za (.string s'):=ao.get dT.o (by simp[kv,xB]);have HT:=aa (kH gd.o s' (B:=Zf) (by rw[ZD (by omega)];rfl));have k1:(k:Ze)<6:=by omega
   clear xB mO;go_wp2_with fail;refine Zn HT.o ?_;rintro e w3 ⟨rfl,bi,bk⟩;have ge:=aa bk;have f9:=aa bi;clear bi bk ck;go_wp2;go_roundg (6-(k+1))
   case measure=>rw[Gc.o];omega
   case rel=>
    exact⟨k+1,by omega,rfl,by go_num,lE.o.trans f9.o,ge.o,ja.o.but f9.o (by have:=lE.o;exact O.lt_of_lt_of_le aR.o (Zl _)) (Zl _),ao.same dT.o (λj hj=>f9.o.block j (ao.lt dT.o hj) (by simp[ZI]at hj;simp;omega)),mG⟩
  .have k1:¬((k:Ze)<6):=by omega
   clear mO;go_wp2;go_ret;exact⟨_,rfl,lE.o,gd.o,ja.o⟩
theorem aci(V:O->Prop)(b g cap:O)(T:Zc (aj×O)):wD 59 #[.int .i64 3] V b g cap T:=by
 intro w i d bad h bU hd;have HF:=aa (Qp V b g cap T w i d bad h bU hd);clear h;go_enter func59,ntmps59;go_wp2_with fail;refine Zn HF.o ?_;rintro e w2 ⟨p,rfl,ar,hp,hn⟩;have HP:=aa hp;have dI:=aa ar;have HN:=aa hn.o;clear hp ar hn;go_wp2;go_ret;exact⟨_,rfl,dI.o,HP.o,HN.o⟩
theorem KM(V:O->Prop)(b g cap:O)(T:Zc (aj×O))(lv:O)(rI:lv=0\/lv=1\/lv=2)(eB:wD 59 #[.int .i64 ((lv+1:O):Ze)] V b g cap T):wD 59 #[.int .i64 (lv:O)] V b g cap T:=by
 intro w i d bad h bU hd;have aR:XX (b<w.heap.size):=al h.blk;have qV:=aa eB;have nN:=aa h;clear h eB;rcases rI with rfl|rfl|rfl
 all_goals
  go_enter func59,ntmps59;go_wp2_with fail;refine Zn (qV.o _ i d bad (nN.o.alloc _) bU hd) ?_;rintro e w2 ⟨p,rfl,ar,hp,hn⟩;obtain⟨m,op,a,s,nsl,lsl,n0,n1,n2,i0,i1,i2,v,rfl,hM,hb⟩:=hn.o;have HP:=aa hp;have dI:XX (ab b w w2):=((ab.refl b w).alloc _).trans ar;have HN:XX (gx w2 w.heap.size (.pointer (Za ⟨m,0,Zb⟩))):=hn.o.keep (λk o hk ho=>⟨rfl,by simp at hk;omega⟩);clear hp ar hn hM hb;go_wp2_with fail;go_loopg [6] 0 (λ_ xv wr=>xv=.pointer (Za ⟨m,0,Zb⟩)/\wr=w2)
  case atStart=>exact⟨rfl,rfl⟩
  case round=>
   obtain⟨rfl,rfl⟩:=hrel;have hT:=λs'=>kH HP.o s' (B:=Zf) (by rw[ZD (by omega)];rfl)
   have HT:=aa hT;clear hT;go_wp2_with fail;refine Zn (HT.o _) ?_;rintro e w3 ⟨rfl,bi,bk⟩;have ge:=aa bk;have f9:=aa bi;clear bi bk;go_wp2;go_ret;exact⟨_,rfl,dI.o.trans f9.o,ge.o,HN.o.but f9.o aR.o (Zl _)⟩
theorem yX(V:O->Prop)(b g cap:O)(T:Zc (aj×O))(lv:O)(rI:lv<=3):wD 59 #[.int .i64 (lv:O)] V b g cap T:=by
 have h3:wD 59 #[.int .i64 ((3:O):Ze)] V b g cap T:=aci V b g cap T;have h2:=KM V b g cap T 2 (by omega) h3;have h1:=KM V b g cap T 1 (by omega) h2;have h0:=KM V b g cap T 0 (by omega) h1;rcases(show lv=0\/lv=1\/lv=2\/lv=3 by omega)with rfl|rfl|rfl|rfl
 .exact h0
 .exact h1
 .exact h2
 .exact h3
end Go.Proofs.YtdlgkgfeoiohiaaGreatDoor
