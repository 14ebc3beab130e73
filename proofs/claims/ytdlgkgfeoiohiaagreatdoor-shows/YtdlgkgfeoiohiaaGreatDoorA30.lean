/- Part 30. -/
import Derived.Test.YtdlgkgfeoiohiaaGreatDoorA29
open List renaming mem_singleton -> Zc,length_append -> Zd,mem_cons -> Ze
open _root_ renaming Nat -> O,List -> Za,ByteArray -> Zb
namespace Go.Proofs.YtdlgkgfeoiohiaaGreatDoor
set_option linter.unusedVariables false
set_option maxHeartbeats 16000000
set_option maxRecDepth 100000
open Go.RowKit J
variable {inn:bc}{x:Nd}{ex part:O->PR}{s op u:Zb}{l:Za Nd}{T:Za (aj×O)}{thing:O->Except O (Za Zb×Nd×O)}{i:O}
def DP(n0 n1 n2:Int):Prop:=(-10000000<=n0/\n0<=10000000)/\(-10000000<=n1/\n1<=10000000)/\(-10000000<=n2/\n2<=10000000)
mutual
def lZ:Nd->Prop
 |.mk op _ s names l n0 n1 n2 _ _ _ _=>s.size<=1000/\(∀k∈names,k.size<=1000)/\DP n0 n1 n2/\(op=fi->names.length=l.length)/\l4 l
def l4:Za Nd->Prop
 |[]=>True
 |x::l=>lZ x/\l4 l
end
theorem Am:DP 0 0 0:=by unfold DP;omega
theorem tS{a:O}{names:Za Zb}{n0 n1 n2:Int}{i0 i1 i2:Bool}{v:Option (VT 12)}(h1:s.size<=1000)(h2:∀k∈names,k.size<=1000)(h3:DP n0 n1 n2)(h5:op≠fi\/names.length=l.length)(h4:l4 l):lZ (.mk op a s names l n0 n1 n2 i0 i1 i2 v):=by
 rw[lZ];exact⟨h1,h2,h3,λe=>h5.resolve_left (λh=>h e),h4⟩
theorem po:∀k∈([]:Za Zb),k.size<=1000:=λk h=>by cases h
theorem pq:l4 []:=by rw[l4];trivial
theorem e0:(⟨#[]⟩:Zb).size<=1000:=by decide
theorem ri(fF:op≠fi)(h:l4 l):lZ (dn op l):=tS e0 po Am (.inl fF) h
theorem zY(h:lZ x):l4 [x]:=by rw[l4];exact⟨h,pq⟩
theorem Tw{y:Nd}(h:lZ x)(h2:lZ y):l4 [x,y]:=by rw[l4];exact⟨h,zY h2⟩
theorem Fr:∀{l:Za Nd} {x:Nd},l4 l->lZ x->l4 (l++[x])
 |[],x,_,h=>zY h
 |y::l,x,h,h2=>by
  rw[l4]at h;rw[Za.cons_append,l4];exact⟨h.1,Fr h.2 h2⟩
theorem MT:∀{l:Za Nd} {x:Nd},l4 l->x∈l->lZ x
 |[],x,_,h=>by cases h
 |y::l,x,h,hx=>by
  rw[l4]at h;rcases Ze.1 hx with e|e
  .rw[e];exact h.1
  .exact MT h.2 e
def nk(R:O->PR):Prop:=∀i x j,R i=.ok (x,j)->lZ x
def sE:bc->Prop
 |none=>True
 |some f=>nk f.1/\nk f.2
def GC(thing:O->Except O (Za Zb×Nd×O)):Prop:=∀i y,thing i=.ok y->(∀k∈y.1,k.size<=1000)/\lZ y.2.1
def tU(T:Za (aj×O)):Prop:=∀k,-10000000<=(bp T k).num/\(bp T k).num<=10000000
theorem IU(ht:GC thing):∀(f:O) (ks:Za Zb) (l:Za Nd) (i:O) (y:Za Zb×Za Nd×O),dY T thing f ks l i=.ok y->(∀k∈ks,k.size<=1000)->l4 l->(∀k∈y.1,k.size<=1000)/\l4 y.2.1
 |0,ks,l,i,y,h,hk,hl=>by rw[dY]at h;injection h with h;subst h;exact⟨hk,hl⟩
 |f+1,ks,l,i,y,h,hk,hl=>by
  rw[dY]at h;cases hx:thing i with
  |error e=>rw[hx]at h;cases h
  |ok z=>
   rw[hx]at h;have h1:=ht i z hx;have ek:∀k∈ks++z.1,k.size<=1000:=λk kO=>by
    rcases Za.mem_append.1 kO with e|e
    .exact hk k e
    .exact h1.1 k e
   simp only at h;split at h
   .exact IU ht f _ _ _ _ h ek (Fr hl h1.2)
   .injection h with h;subst h;exact⟨ek,Fr hl h1.2⟩
theorem Uw(ht:∀i y,thing i=.ok y->y.1.length=1):∀(f:O) (ks:Za Zb) (l:Za Nd) (i:O) (y:Za Zb×Za Nd×O),dY T thing f ks l i=.ok y->ks.length=l.length->y.1.length=y.2.1.length
 |0,ks,l,i,y,h,hl=>by rw[dY]at h;injection h with h;subst h;exact hl
 |f+1,ks,l,i,y,h,hl=>by
  rw[dY]at h;cases hx:thing i with
  |error e=>rw[hx]at h;cases h
  |ok z=>
   rw[hx]at h;have h1:=ht i z hx;have h2:(ks++z.1).length=(l++[z.2.1]).length:=by rw[Zd,Zd,h1,hl];rfl
   simp only at h;split at h
   .exact Uw ht f _ _ _ _ h h2
   .injection h with h;subst h;exact h2
section
variable {T:Za (aj×O)}
theorem ago:∀i y,ji T ex i=.ok y->y.1.length=1:=by
 intro i y h;unfold ji at h;split at h
 .split at h
  .cases hx:ex (i+2)with
   |error e=>rw[hx]at h;cases h
   |ok z=>rw[hx]at h;injection h with h;subst h;rfl
  .cases h
 .cases h
theorem afT(hm:nk ex):GC (kn ex):=by
 intro i y h;unfold kn at h;cases hx:ex i with
 |error e=>rw[hx]at h;cases h
 |ok z=>rw[hx]at h;injection h with h;subst h;exact⟨po,hm i z.1 z.2 hx⟩
theorem aa0(hm:nk ex):GC (ke T ex):=by
 intro i y h;unfold ke at h;split at h
 .cases hx:ex (i+1)with
  |error e=>rw[hx]at h;cases h
  |ok z=>rw[hx]at h;injection h with h;subst h;exact⟨po,ri (by decide) (zY (hm (i+1) z.1 z.2 hx))⟩
 .cases hx:ex i with
  |error e=>rw[hx]at h;cases h
  |ok z=>rw[hx]at h;injection h with h;subst h;exact⟨po,hm i z.1 z.2 hx⟩
theorem agp(hm:nk ex)(hT:kF T):GC (ji T ex):=by
 intro i y h;unfold ji at h;split at h
 .split at h
  .cases hx:ex (i+2)with
   |error e=>rw[hx]at h;cases h
   |ok z=>
    rw[hx]at h;injection h with h;subst h;exact⟨λk hk=>by rw[Zc]at hk;rw[hk];exact hT i,hm (i+2) z.1 z.2 hx⟩
  .cases h
 .cases h
theorem abq(hm:sE inn)(hT:kF T):nk (mx T inn):=by
 intro i x j h;cases inn with
 |none=>cases h
 |some f=>
  unfold mx at h;simp only at h;split at h
  .injection h with h;injection h with h1 h2;subst h1;exact tS (hT i) po Am (.inl (by decide)) pq
  .cases hx:dY T (ke T f.2) T.length [] [] (i+2)with
   |error e=>rw[hx]at h;cases h
   |ok z=>
    rw[hx]at h;obtain⟨h2,h3⟩:=pn h;subst h2;exact tS (hT i) po Am (.inl (by decide)) (IU (aa0 hm.2) _ _ _ _ _ hx po pq).2
theorem Tk(hm:sE inn):nk (ko T inn):=by
 intro i x j h;cases inn with
 |none=>cases h
 |some f=>
  unfold ko at h;simp only at h;cases hx:dY T (kn f.2) T.length [] [] (i+1)with
  |error e=>rw[hx]at h;cases h
  |ok z=>
   rw[hx]at h;obtain⟨h2,h3⟩:=pn h;subst h2;exact ri (by decide) (IU (afT hm.2) _ _ _ _ _ hx po pq).2
theorem agP(hm:sE inn)(hT:kF T):nk (oj T inn):=by
 intro i x j h;cases inn with
 |none=>cases h
 |some f=>
  unfold oj at h;simp only at h;cases hx:dY T (ji T f.2) T.length [] [] (i+1)with
  |error e=>rw[hx]at h;cases h
  |ok z=>
   rw[hx]at h;obtain⟨h2,h3⟩:=pn h;subst h2;have:=IU (agp hm.2 hT) _ _ _ _ _ hx po pq;exact tS e0 this.1 Am (.inr (Uw ago _ _ _ _ _ hx rfl)) this.2
theorem Kq(hN:tU T)(i:O):-10000000<=(aZ T i).1/\(aZ T i).1<=10000000:=by
 have:=hN i;unfold aZ;split
 .exact this
 .simp only;omega
theorem afB{f:(O->PR)×(O->PR)}(hm:nk f.2)(hN:tU T){j:O}(h:fH T f i=.ok (x,j)):lZ x:=by
 have b1:=Kq hN i;have b2:=Kq hN ((aZ T i).2.2+1);have b3:=Kq hN ((aZ T ((aZ T i).2.2+1)).2.2+1);unfold fH at h;split at h
 .injection h with h;injection h with h1 h2;subst h1;exact ri (by decide) pq
 split at h
 .injection h with h;injection h with h1 h2;subst h1;exact ri (by decide) pq
 split at h
 .cases hx:f.2 (i+1)with
  |error e=>rw[hx]at h;cases h
  |ok z=>rw[hx]at h;injection h with h;injection h with h1 h2;subst h1;exact ri (by decide) (zY (hm (i+1) z.1 z.2 hx))
 split at h
 .split at h
  .split at h
   .cases h
   .injection h with h;injection h with h1 h2;subst h1;refine tS e0 po ⟨b1,b2,?_⟩ (.inl (by decide)) pq;split
    .exact b3
    .omega
  .injection h with h;injection h with h1 h2;subst h1;exact tS e0 po ⟨b1,b2,by omega⟩ (.inl (by decide)) pq
 split at h
 .injection h with h;injection h with h1 h2;subst h1;exact tS e0 po ⟨b1,by omega,by omega⟩ (.inl (by decide)) pq
 .cases h
theorem PH(hm:sE inn)(hN:tU T):nk (jy T inn):=by
 intro i x j h;cases inn with
 |none=>cases h
 |some f=>
  unfold jy at h;simp only at h;cases hx:fH T f (i+1)with
  |error e=>rw[hx]at h;cases h
  |ok z=>
   rw[hx]at h;have h1:=afB hm.2 hN (x:=z.1) (j:=z.2) hx;obtain⟨h2,h3⟩:=pn h;subst h2;exact h1
theorem TZ(hm:sE inn)(hT:kF T):nk (fR T inn):=by
 intro i x j h;unfold fR at h;split at h
 .exact abq hm hT i x j h
 split at h
 .injection h with h;injection h with h1 h2;subst h1;exact tS (hT i) po Am (.inl (by decide)) pq
 split at h
 .injection h with h;injection h with h1 h2;subst h1;exact ri (by decide) pq
 split at h
 .exact agP hm hT i x j h
 .cases h
theorem acO(hm:sE inn)(hT:kF T)(hN:tU T):nk (fx T inn):=by
 intro i x j h;unfold fx at h;split at h
 .injection h with h;injection h with h1 h2;subst h1;exact tS (hT i) po Am (.inl (by decide)) pq
 split at h
 .injection h with h;injection h with h1 h2;subst h1;exact tS e0 po Am (.inl (by decide)) pq
 split at h
 .cases inn with
  |none=>cases h
  |some f=>
   simp only at h;cases hx:f.2 (i+1)with
   |error e=>rw[hx]at h;cases h
   |ok z=>
    rw[hx]at h;have h1:=hm.2 (i+1) z.1 z.2 hx;obtain⟨h2,h3⟩:=pn h;subst h2;split
    .exact ri (by decide) (zY h1)
    .exact h1
 split at h
 .split at h
  .exact PH hm hN i x j h
  .exact Tk hm i x j h
 split at h
 .injection h with h;injection h with h1 h2;subst h1;exact ri (by decide) pq
 .exact TZ hm hT i x j h
theorem Kz(hm:sE inn)(hT:kF T)(hN:tU T):∀(f:O) (l:Za Nd) (i:O) (y:Za Nd×O),d7 T inn f l i=.ok y->l4 l->l4 y.1
 |0,l,i,y,h,hl=>by rw[d7]at h;injection h with h;subst h;exact hl
 |f+1,l,i,y,h,hl=>by
  rw[d7]at h;split at h
  .split at h
   .cases h
   .rename_i z hx
    refine Kz hm hT hN f _ _ _ h (Fr hl ?_);split at hx
    .exact Tk hm (i+1) z.1 z.2 hx
    .exact TZ hm hT (i+1) z.1 z.2 hx
  split at h
  .cases hx:jy T inn i with
   |error e=>rw[hx]at h;cases h
   |ok z=>rw[hx]at h;exact Kz hm hT hN f _ _ _ h (Fr hl (PH hm hN i z.1 z.2 hx))
  .injection h with h;subst h;exact hl
theorem PO(hm:sE inn)(hT:kF T)(hN:tU T):nk (fb T inn):=by
 intro i x j h;unfold fb at h;cases hx:fx T inn i with
 |error e=>rw[hx]at h;cases h
 |ok z=>
  rw[hx]at h;have h1:=acO hm hT hN i z.1 z.2 hx;simp only at h;cases hy:d7 T inn T.length [z.1] z.2 with
  |error e=>rw[hy]at h;cases h
  |ok y=>
   rw[hy]at h;injection h with h;injection h with h2 h3;have h4:=Kz hm hT hN _ _ _ _ hy (zY h1);split at h2
   .subst h2;exact h1
   .subst h2;exact ri (by decide) h4
theorem PZ:∀{l:Za Zb} {s:Zb},(∀x∈l,x≠fi)->ln T i l=some s->s≠fi
 |[],s,hl,h=>by cases h
 |x::l,s,hl,h=>by
  rw[ln]at h;split at h
  .injection h with h;subst h;exact hl _ (Za.mem_cons_self ..)
  .exact PZ (λy hy=>hl y (Za.mem_cons_of_mem _ hy)) h
theorem Ty(hm:sE inn)(hT:kF T)(hN:tU T):nk (fA T inn):=by
 intro i x j h;unfold fA at h;split at h
 .cases inn with
  |none=>cases h
  |some f=>
   simp only at h;cases hx:f.1 (i+1)with
   |error e=>rw[hx]at h;cases h
   |ok z=>rw[hx]at h;injection h with h;injection h with h1 h2;subst h1;exact ri (by decide) (zY (hm.1 (i+1) z.1 z.2 hx))
 .cases hx:fb T inn i with
  |error e=>rw[hx]at h;cases h
  |ok z=>
   rw[hx]at h;have h1:=PO hm hT hN i z.1 z.2 hx;simp only at h;cases hc:ln T z.2 ii with
   |none=>rw[hc]at h;injection h with h;subst h;exact h1
   |some s=>
    rw[hc]at h;simp only at h;cases hy:fb T inn (z.2+1)with
    |error e=>rw[hy]at h;cases h
    |ok y=>rw[hy]at h;injection h with h;injection h with h2 h3;subst h2;exact ri (PZ (by decide) hc) (Tw h1 (PO hm hT hN (z.2+1) y.1 y.2 hy))
theorem TP(hm:nk part)(hs:s≠fi):∀(f:O) (x:Nd) (i:O) (y:Nd×O),ly T part s f x i=.ok y->lZ x->lZ y.1
 |0,x,i,y,h,hx=>by rw[ly]at h;injection h with h;subst h;exact hx
 |f+1,x,i,y,h,hx=>by
  rw[ly]at h;split at h
  .cases hp:part (i+1)with
   |error e=>rw[hp]at h;cases h
   |ok z=>rw[hp]at h;exact TP hm hs f _ _ _ h (ri hs (Tw hx (hm (i+1) z.1 z.2 hp)))
  .injection h with h;subst h;exact hx
theorem Nb(hm:nk part)(hs:s≠fi):nk (iF T s part):=by
 intro i x j h;unfold iF at h;cases hx:part i with
 |error e=>rw[hx]at h;cases h
 |ok z=>rw[hx]at h;exact TP hm hs _ _ _ _ h (hm i z.1 z.2 hx)
theorem Ut(hm:sE inn)(hT:kF T)(hN:tU T):nk (fm T inn 3):=Nb (Nb (Nb (Ty hm hT hN) (by decide)) (by decide)) (by decide)
theorem Mx(hT:kF T)(hN:tU T):∀n,sE (bV T n)
 |0=>trivial
 |n+1=>⟨Ty (Mx hT hN n) hT hN,Ut (Mx hT hN n) hT hN⟩
end
theorem aj3(u:Zb)(h:¬(ia u).2=0):-10000000<=(ia u).1/\(ia u).1<=10000000:=by
 by_cases ey:gb u 0=45
 .have e:ia u=if aA u 1=1\/6<aA u 1-1\/(1<aA u 1-1/\gb u 1=48)then(0,0)else(- wv u 1 (aA u 1-1),aA u 1):=by rw[ia];simp only[ey,if_true]
  rw[e]at h⊢;by_cases hc:aA u 1=1\/6<aA u 1-1\/(1<aA u 1-1/\gb u 1=48)
  .rw[if_pos hc]at h;exact absurd rfl h
  .rw[if_neg hc];have gW:=qh u 1;have:=CS (u:=u) (fr:=1) (aA u 1-1) (by omega) (by omega);simp only;omega
 .have e:ia u=if aA u 0=0\/6<aA u 0-0\/(1<aA u 0-0/\gb u 0=48)then(0,0)else(wv u 0 (aA u 0),aA u 0):=by rw[ia];simp only[ey,if_false]
  rw[e]at h⊢;by_cases hc:aA u 0=0\/6<aA u 0-0\/(1<aA u 0-0/\gb u 0=48)
  .rw[if_pos hc]at h;exact absurd rfl h
  .rw[if_neg hc];have:=CS (u:=u) (fr:=0) (aA u 0) (by omega) (by omega);simp only;omega
theorem UZ(u:Zb):-10000000<=(aD u).1.num/\(aD u).1.num<=10000000:=by
 have hx:-10000000<=((lC,0):aj×O).1.num/\((lC,0):aj×O).1.num<=10000000:=by decide
 have z:-10000000<=(0:Int)/\(0:Int)<=10000000:=by omega
 rw[aD];split
 .exact z
 split
 .split
  .exact z
  .exact hx
 split
 .split
  .exact hx
  .exact z
 split
 .split
  .exact hx
  .unfold qP;split
   .exact z
   split
   .split
    .exact z
    .exact hx
   .exact hx
 split
 .split
  .exact hx
  .rename_i hw
   exact aj3 u hw
 split
 .exact z
 split
 .exact z
 .exact hx
theorem U5:∀(f i:O),∀x∈js u f i,-10000000<=x.1.num/\x.1.num<=10000000
 |0,i,x,h=>by rw[js]at h;cases h
 |f+1,i,x,h=>by
  rw[js]at h;split at h
  .rw[Zc]at h;subst h;exact(show -10000000<=wB.num/\wB.num<=10000000 by decide)
  split at h
  .rw[Zc]at h;subst h;exact UZ _
  .rcases Ze.1 h with h|h
   .subst h;exact UZ _
   .exact U5 f _ x h
theorem U7(u:Zb):tU (toks u):=by
 intro k;unfold bp;cases h:(toks u)[k]? with
 |none=>exact(show -10000000<=(0:Int)/\(0:Int)<=10000000 by omega)
 |some x=>exact U5 _ _ x (Za.mem_of_getElem? h)
theorem ag0(h:gI u=.ok x):lZ x:=by
 unfold gI at h;split at h
 .cases h
 .rename_i hu
  split at h
  .cases h
  .rename_i y hy
   have hT:=N7 (u:=u) (by omega);have h1:=Ut (Mx hT (U7 u) 12) hT (U7 u) 0 y.1 y.2 hy;split at h
   .cases h
   split at h
   .cases h
   split at h
   .cases h
   .injection h with h;subst h;exact h1
end Go.Proofs.YtdlgkgfeoiohiaaGreatDoor
