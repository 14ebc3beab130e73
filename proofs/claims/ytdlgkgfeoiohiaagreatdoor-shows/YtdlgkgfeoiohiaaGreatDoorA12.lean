/- Part 12. -/
import Derived.Test.YtdlgkgfeoiohiaaGreatDoorA10
open Except renaming map -> Ze
open Except.ok renaming injEq -> Zk
open List renaming length_append -> Zg,zipWith -> Zh,mem_cons -> Zl,length_reverse -> Zm,mem_append -> Zn
open Nat renaming le_trans -> Zo
open Or renaming inl -> Zi
open Prod.mk renaming injEq -> Za
open _root_ renaming List -> O,UInt8 -> Zb,ByteArray -> Zc,Bool -> Zd,if_neg -> Zf,if_pos -> Zj
namespace Go.Proofs.YtdlgkgfeoiohiaaGreatDoor
set_option linter.unusedVariables false
set_option maxHeartbeats 16000000
set_option maxRecDepth 100000
open Go.RowKit J
variable {s:Zc}{k k2 n:Nat}{lg lg2:Zd}{l:Lf}{K:Type}
theorem I8:∀(f k:Nat) (acc:O Zb),(dR s f k acc).2.2<0->(dR s f k acc).1.length+4*k+4<=acc.length+4*(dR s f k acc).2.1
 |0,k,acc,h=>by simp[dR]at h;omega
 |f+1,k,acc,h=>by
  simp only[dR]at h⊢;split
  .simp;omega
  .rename_i gV
   rw[Zf gV]at h;split
   .rename_i iA;rw[Zj iA]at h;simp at h;omega
   .rename_i iA
    rw[Zf iA]at h;split
    .rename_i h127
     rw[Zj h127]at h;split
     .rename_i hm
      rw[Zj hm]at h;have hg:=Cq hm;have hx:(s.extract k (et s k (-1)).1).data.toList.length=(et s k (-1)).1-k:=by
       have:(s.extract k (et s k (-1)).1).size=(et s k (-1)).1-k:=by simp[Zc.size_extract];omega
       exact this
      have:=I8 f _ _ h;rw[Zg,hx]at this;omega
     .rename_i hm;rw[Zf hm]at h;simp at h;omega
    .rename_i h127
     rw[Zf h127]at h;split
     .rename_i h92
      rw[Zj h92]at h;split
      .rename_i hm
       rw[Zj hm]at h;have hg:=GT hm;have:=I8 f _ _ h;rw[Zg]at this;omega
      .rename_i hm;rw[Zf hm]at h;simp at h;omega
     .rename_i h92
      rw[Zf h92]at h;have:=I8 f _ _ h;rw[Zg]at this;simp at this;omega
theorem N5(h:(aw s k).2.2<0):(aw s k).1.length+4*k+8<=4*(aw s k).2.1/\k+2<=(aw s k).2.1:=by
 unfold aw at h⊢;split
 .rename_i hc
  rw[Zj hc]at h;have:=I8 _ _ _ h;simp at this;omega
 .rename_i hc;rw[Zf hc]at h;simp at h;omega
theorem xO(l:O Zb):(dt l).length<=6*l.length+2:=by
 have:=QC l;simp[dt]at this⊢;omega
theorem ajN(l:O Zb):(d8 l).length<=l.length:=by
 unfold d8;rw[Zm];have:=(O.dropWhile_suffix (l:=l.reverse) (λc:Zb=>c==48)).length_le;rw[Zm]at this;exact this
theorem abG(n:Int):(lG n).length<=82:=by
 have h1:=Bn 40 (n.natAbs/1000000) 1 [];have h2:=Bn 40 (n.natAbs%1000000) 6 [];have h3:=ajN (bW (n.natAbs%1000000) 6);have h4:(bW (n.natAbs%1000000) 6).length<=40:=by simpa[bW]using h2
 have h5:(bW (n.natAbs/1000000) 1).length<=40:=by simpa[bW]using h1
 unfold lG;rw[Zg,Zg];have h6:(if n<0 then[45]else([]:O Zb)).length<=1:=by split <;> simp
 have h7:(if d8 (bW (n.natAbs%1000000) 6)=[]then([]:O Zb)else 46::d8 (bW (n.natAbs%1000000) 6)).length<=41:=by
  split
  .simp
  .rw[O.length_cons];omega
 omega
theorem aj2(h:kz s k=some k2)(hk:k<=s.size):kZ (s.extract k k2)/\k<k2:=by
 unfold kz at h;split at h
 .rename_i hc
  injection h with h;subst h;rw[QA hc];exact⟨KI,by omega⟩
 .split at h
  .rename_i hd
   injection h with h;subst h;refine⟨G0 hk,?_⟩;rw[uG hd];have:=qh s (k+1);omega
  .simp at h
theorem ag2(hk:k<=s.size):kZ (eZ s k).1:=by
 unfold eZ;split
 .rename_i h
  have:=cC (s:=s) (k:=k) (by omega);obtain⟨l,k',b',hr⟩:∃l k' b',fI s (k+1)=(l,k',b'):=⟨_,_,_,rfl⟩
  rw[hr];exact(FF hr (by omega)).1
 .exact KH
theorem agH(hk:k<=s.size)(hn:(dQ s k).2.2<0):k<(dQ s k).2.1/\∃x,(dQ s k).1=some x/\0<=x.getD 0/\x.getD 0<=1000000000000000:=by
 obtain⟨k1,dh⟩:∃k1,k1=if gb s k=45 then k+1 else k:=⟨_,rfl⟩
 have nw:k1<=s.size:=by
  rw[dh];split
  .have:=cC (s:=s) (k:=k) (by omega);omega
  .exact hk
 have aey:k<=k1:=by rw[dh];split <;> omega
 cases hw:kz s k1 with
 |none=>rw[Cu dh hw]at hn;simp at hn;omega
 |some k2=>
  have ek:=Ob hw nw;have Il:=aj2 hw nw;have hp:=Ng ek.1;have BW:=ag2 ek.1;have he:=KT hp.1 hp.2.1;obtain⟨pt,k3,b3,h3⟩:∃pt k3 b3,eZ s k2=(pt,k3,b3):=⟨_,_,_,rfl⟩
  rw[h3]at he hp BW;simp only at hp BW;obtain⟨pw,k4,b4,h4⟩:∃pw k4 b4,d9 s k3 b3=(pw,k4,b4):=⟨_,_,_,rfl⟩
  simp only[h4]at he;rw[rQ dh hw h3 h4];refine⟨by simp only;omega,_,rfl,?_⟩;cases hx:kI ((s.extract k1 k2).data.toList++pt.data.toList) (((k2-k1:Nat):Int)+pw)with
  |none=>simp
  |some r=>
   have hd:∀c∈(s.extract k1 k2).data.toList++pt.data.toList,48<=c.toNat/\c.toNat<=57:=by
    intro c hc;rcases Zn.1 hc with hc|hc
    .exact Il.1.mem c hc
    .exact BW.mem c hc
   have:=GX _ _ 0 0 r (by omega) (by omega) hd hx;simpa using this
theorem Oc{l:O Zb}(h:(aQ s k (-1) l).2<0):(aQ s k (-1) l).1=k+l.length:=
 (Jk (s:=s) (l:=l) (k:=k) (bad:=-1) (k':=(aQ s k (-1) l).1) (bad':=(aQ s k (-1) l).2) rfl h).2
theorem T8(hs:s.size<=1000)(hk:k<=s.size)(h:iV s k lg=.ok (l,k2,lg2)):DM l/\(tp l).length<=90*(k2-k)/\k<k2:=by
 unfold iV at h;split at h
 .split at h
  .rename_i hn
   have hr:=N5 hn;have hq:=xO (aw s k).1;injection h with h;simp only[Za]at h;obtain⟨rfl,rfl,rfl⟩:=h;refine⟨wA hs,?_,by omega⟩;show(dt (⟨(aw s k).1.toArray⟩:Zc).data.toList).length<=_;have e:(⟨(aw s k).1.toArray⟩:Zc).data.toList=(aw s k).1:=by simp
   rw[e];omega
  .simp at h
 .split at h
  .split at h
   .rename_i hn
    have ho:=agH hk hn;obtain⟨h1,x,h2,h3,h4⟩:=ho;injection h with h;simp only[Za]at h;obtain⟨rfl,rfl,rfl⟩:=h;refine⟨?_,?_,h1⟩
    .show -1000000000000000<=_/\_<=(1000000000000000:Int);rw[h2];simp only[Option.getD_some];split <;> omega
    .have:=abG (if gb s k=45 then -(((dQ s k).1.getD none).getD 0)else((dQ s k).1.getD none).getD 0);show(lG _).length<=_;omega
   .simp at h
  .split at h
   .split at h
    .rename_i hn
     have:=Oc hn;injection h with h;simp only[Za]at h;obtain⟨rfl,rfl,rfl⟩:=h;rw[this];exact⟨trivial,by show 4<=_;simp,by simp⟩
    .simp at h
   .split at h
    .split at h
     .rename_i hn
      have:=Oc hn;injection h with h;simp only[Za]at h;obtain⟨rfl,rfl,rfl⟩:=h;rw[this];exact⟨trivial,by show 5<=_;simp,by simp⟩
     .simp at h
    .split at h
     .split at h
      .rename_i hn
       have:=Oc hn;injection h with h;simp only[Za]at h;obtain⟨rfl,rfl,rfl⟩:=h;rw[this];exact⟨trivial,by show 4<=_;simp,by simp⟩
      .simp at h
     .simp at h
def mZ:O (O Zb)->Nat
 |[]=>0
 |x::r=>x.length+1+mZ r
theorem UR:∀(l:O (O Zb)) (x:O Zb),mZ (l++[x])=mZ l+(x.length+1)
 |[],x=>by simp[mZ]
 |y::l,x=>by simp[mZ,UR l x];omega
theorem MG:∀(f:Zd) (l:O (O Zb)),(ci f l).length<=mZ l
 |f,[]=>by simp[ci,mZ]
 |f,x::l=>by
  have:=MG false l;have h:(if f then([]:O Zb)else[44]).length<=1:=by cases f <;> simp
  simp only[ci,mZ,Zg];omega
def Kh(n:Nat)(s:Zc):Prop:=∀k lg v k2 lg2,k<=s.size->cZ n s k lg=.ok (v,k2,lg2)->fV n v/\(aF n v).length<=90*(k2-k)/\k<k2/\k2<=s.size
theorem Tl(hi:Kh n s):∀(f:Nat) (fst:Zd) (k:Nat) (lg:Zd) (acc vs:O (VT n)) (k2:Nat) (lg2:Zd),k<=s.size->(∀x∈acc,fV n x)->gH (cZ n s) s f fst k lg acc=.ok (vs,k2,lg2) ->
 (∀x∈vs,fV n x)/\mZ (vs.map (aF n))<=mZ (acc.map (aF n))+90*(k2-k)+(if fst then 1 else 0)/\k<k2/\k2<=s.size
 |0,fst,k,lg,acc,vs,k2,lg2,hk,ha,h=>by simp[gH]at h
 |f+1,fst,k,lg,acc,vs,k2,lg2,hk,ha,h=>by
  simp only[gH]at h;split at h
  .rename_i hc
   have:=cC (s:=s) (k:=k) (by omega);injection h with h;simp only[Za]at h;obtain⟨rfl,rfl,rfl⟩:=h;exact⟨ha,by omega,by omega,by omega⟩
  .split at h
   .simp at h
   .rename_i hn
    have fe:(if fst then k else k+1)<=s.size:=by
     cases fst
     .have:gb s k=44:=by simpa using hn
      have:=cC (s:=s) (k:=k) (by omega);simp;omega
     .simpa using hk
    split at h
    .simp at h
    .rename_i r hr
     obtain⟨v,k',lg'⟩:=r;have ho:=hi _ _ _ _ _ fe hr;have eQ:=fJ s k';have aH:=iH s k' ho.2.2.2;have ih:=Tl hi f false (ak s k') lg' (acc++[v]) vs k2 lg2 aH (by
      intro x hx;rcases Zn.1 hx with hx|hx
      .exact ha x hx
      .simp at hx;subst hx;exact ho.1) h
     rw[O.map_append,O.map_cons,O.map_nil,UR]at ih;refine⟨ih.1,?_,?_,ih.2.2.2⟩
     .have h1:=ih.2.1;have h2:=ho.2.1;have h3:=ho.2.2.1;have h4:=ih.2.2.1;cases fst
      .simp at h1 h2 h3⊢;omega
      .simp at h1 h2 h3⊢;omega
     .have h3:=ho.2.2.1;have h4:=ih.2.2.1;cases fst <;> simp at h3 <;> omega
theorem Uk:∀(ks:O Zc) (vs:O (VT n)) (key:Zc) (v:VT n),ks.length=vs.length->mZ (Zh iS (jP ks key) ((fB ks vs key v).map (aF n)))<=mZ (Zh iS ks (vs.map (aF n)))+((iS key (aF n v)).length+1)
 |[],[],key,v,_=>by simp[jP,fB,mZ]
 |k'::ks,x::vs,key,v,hl=>by
  simp only[jP,fB];split
  .rename_i he
   subst he;simp[mZ];omega
  .have:=Uk ks vs key v (by simpa using hl);simp[mZ]at this⊢;omega
 |[],x::vs,key,v,hl=>by simp at hl
 |k'::ks,[],key,v,hl=>by simp at hl
theorem Uj{α:Type} [DecidableEq K]:∀(ks:O K) (vs:O α) (k:K) (x y:α),y∈fB ks vs k x->y∈vs\/y=x
 |[],vs,k,x,y,h=>by simpa[fB]using h
 |k'::ks,[],k,x,y,h=>by simpa[fB]using h
 |k'::ks,v::vs,k,x,y,h=>by
  simp only[fB]at h;split at h
  .rcases Zl.1 h with h|h
   .exact Or.inr h
   .exact Zi (by simp[h])
  .rcases Zl.1 h with h|h
   .exact Zi (by simp[h])
   .rcases Uj ks vs k x y h with h|h
    .exact Zi (by simp[h])
    .exact Or.inr h
theorem Ui [DecidableEq K]:∀(ks:O K) (k y:K),y∈jP ks k->y∈ks\/y=k
 |[],k,y,h=>by simpa[jP]using h
 |k'::ks,k,y,h=>by
  simp only[jP]at h;split at h
  .exact Zi h
  .rcases Zl.1 h with h|h
   .exact Zi (by simp[h])
   .rcases Ui ks k y h with h|h
    .exact Zi (by simp[h])
    .exact Or.inr h
theorem TK(hs:s.size<=1000)(hi:Kh n s):∀(f:Nat) (fst:Zd) (k:Nat) (lg:Zd) (ks:O Zc) (acc:O (VT n)) (ks2:O Zc) (vs:O (VT n)) (k2:Nat) (lg2:Zd),k<=s.size->ks.length=acc.length->(∀x∈ks,x.size<=100000)->(∀x∈acc,fV n x)->f8 (cZ n s) s f fst k lg ks acc=.ok ((ks2,vs),k2,lg2) ->
 ks2.length=vs.length/\(∀x∈ks2,x.size<=100000)/\(∀x∈vs,fV n x)/\mZ (Zh iS ks2 (vs.map (aF n)))<=mZ (Zh iS ks (acc.map (aF n)))+90*(k2-k)/\k<k2/\k2<=s.size
 |0,fst,k,lg,ks,acc,ks2,vs,k2,lg2,hk,hl,hka,ha,h=>by simp[f8]at h
 |f+1,fst,k,lg,ks,acc,ks2,vs,k2,lg2,hk,hl,hka,ha,h=>by
  simp only[f8]at h;split at h
  .rename_i hc
   have:=cC (s:=s) (k:=k) (by omega);injection h with h;simp only[Za]at h;obtain⟨⟨rfl,rfl⟩,rfl,rfl⟩:=h;exact⟨hl,hka,ha,by omega,by omega,by omega⟩
  .split at h
   .simp at h
   .rename_i hn
    have fe:(if fst then k else k+1)<=s.size/\k<=(if fst then k else k+1):=by
     cases fst
     .have:gb s k=44:=by simpa using hn
      have:=cC (s:=s) (k:=k) (by omega);simp;omega
     .simpa using hk
    generalize (if fst then k else k+1)=ka at fe h
    have Sr:=iH s ka fe.1;have EY:=fJ s ka;generalize ak s ka=k0 at Sr EY h
    split at h
    .simp at h
    .rename_i Cg
     have SC:(aw s k0).2.2<0:=by omega
     have xA:=N5 SC;have R2:=An Sr SC;have hq:=xO (aw s k0).1;have Ch:=wA (k:=k0) hs;generalize aw s k0=t at xA R2 hq Ch h
     have hsb:=iH s t.2.1 R2;have hlb:=fJ s t.2.1;generalize ak s t.2.1=k1 at hsb hlb h
     split at h
     .simp at h
     .rename_i h58
      have dh:=cC (s:=s) (k:=k1) (by omega);split at h
      .simp at h
      .rename_i r hr
       obtain⟨v,k',lg'⟩:=r;have ho:=hi _ _ _ _ _ (by omega) hr;have eQ:=fJ s k';have aH:=iH s k' ho.2.2.2;have ih:=TK hs hi f false (ak s k') lg' (jP ks ⟨t.1.toArray⟩) (fB ks acc ⟨t.1.toArray⟩ v) ks2 vs k2 lg2 aH (IQ ks acc _ v hl) (by
        intro x hx;rcases Ui _ _ _ hx with hx|hx
        .exact hka x hx
        .subst hx;exact Ch) (by
        intro x hx;rcases Uj _ _ _ _ _ hx with hx|hx
        .exact ha x hx
        .subst hx;exact ho.1) h
       have nz:=Uk ks acc ⟨t.1.toArray⟩ v hl;have hmt:(iS (⟨t.1.toArray⟩:Zc) (aF n v)).length=(dt t.1).length+1+(aF n v).length:=by
        simp[iS];omega
       refine⟨ih.1,ih.2.1,ih.2.2.1,?_,?_,ih.2.2.2.2.2⟩
       .have h1:=ih.2.2.2.1;have h2:=ho.2.1;have h3:=ho.2.2.1;have h4:=ih.2.2.2.2.1;omega
       .have h3:=ho.2.2.1;have h4:=ih.2.2.2.2.1;omega
theorem agG(hk:k<=s.size)(hn:(dQ s k).2.2<0):(dQ s k).2.1<=s.size:=by
 obtain⟨k1,dh⟩:∃k1,k1=if gb s k=45 then k+1 else k:=⟨_,rfl⟩
 have nw:k1<=s.size:=by
  rw[dh];split
  .have:=cC (s:=s) (k:=k) (by omega);omega
  .exact hk
 cases hw:kz s k1 with
 |none=>rw[Cu dh hw]at hn;simp at hn;omega
 |some k2=>
  have ek:=Ob hw nw;have hp:=Ng ek.1;have he:=KT hp.1 hp.2.1;rw[rQ dh hw (show eZ s k2=((eZ s k2).1,(eZ s k2).2.1,(eZ s k2).2.2)from rfl) (show d9 s (eZ s k2).2.1 (eZ s k2).2.2=((d9 s (eZ s k2).2.1 (eZ s k2).2.2).1,(d9 s (eZ s k2).2.1 (eZ s k2).2.2).2.1,(d9 s (eZ s k2).2.1 (eZ s k2).2.2).2.2)from rfl)];exact he.2.1
theorem T6(hs:s.size<=1000)(hk:k<=s.size)(h:iV s k lg=.ok (l,k2,lg2)):k2<=s.size:=by
 have hw:∀lit,(aQ s k (-1) lit).1<=s.size:=λlit=>FR (s:=s) (l:=lit) (k:=k) (bad:=-1) (k':=(aQ s k (-1) lit).1) (bad':=(aQ s k (-1) lit).2) rfl hk
 unfold iV at h;split at h
 .split at h
  .rename_i hn
   injection h with h;simp only[Za]at h;rw[<-h.2.1];exact An hk hn
  .simp at h
 .split at h
  .rename_i hc
   split at h
   .rename_i hn
    injection h with h;simp only[Za]at h;rw[<-h.2.1];exact agG hk hn
   .simp at h
  .split at h
   .split at h
    .injection h with h;simp only[Za]at h;rw[<-h.2.1];exact hw _
    .simp at h
   .split at h
    .split at h
     .injection h with h;simp only[Za]at h;rw[<-h.2.1];exact hw _
     .simp at h
    .split at h
     .split at h
      .injection h with h;simp only[Za]at h;rw[<-h.2.1];exact hw _
      .simp at h
     .simp at h
theorem Fk(s:Zc)(hs:s.size<=1000):∀n,Kh n s
 |0=>by
  intro k lg v k2 lg2 hk h;have eQ:=fJ s k;have aH:=iH s k hk;have h':(iV s (ak s k) lg).map (λr=>(VT.leaf 0 r.1,r.2))=.ok (v,k2,lg2):=h;cases hp:iV s (ak s k) lg with
  |error p=>rw[hp]at h';simp[Ze]at h'
  |ok r=>
   obtain⟨l,k',lg'⟩:=r;rw[hp]at h';simp only[Ze,Zk,Za]at h';obtain⟨rfl,rfl,rfl⟩:=h';have ho:=T8 hs aH hp;refine⟨ho.1,Zo ho.2.1 (by omega),by omega,T6 hs aH hp⟩
 |n+1=>by
  have ih:=Fk s hs n;intro k lg v k2 lg2 hk h;have eQ:=fJ s k;have aH:=iH s k hk;simp only[cZ]at h;split at h
  .rename_i hc
   have ai:=cC (s:=s) (k:=ak s k) (by omega);cases hp:gH (cZ n s) s (s.size+1) true (ak s (ak s k+1)) lg []with
   |error p=>rw[hp]at h;simp[Ze]at h
   |ok r=>
    obtain⟨vs,k',lg'⟩:=r;rw[hp]at h;simp only[Ze,Zk,Za]at h;obtain⟨rfl,rfl,rfl⟩:=h;have h1:=fJ s (ak s k+1);have ho:=Tl ih _ _ _ _ _ _ _ _ (iH s _ (by omega)) (by simp) hp;refine⟨ho.1,?_,by omega,ho.2.2.2⟩;show(91::ci true (vs.map (aF n))++[93]).length<=_;have h2:=MG true (vs.map (aF n));have h3:=ho.2.1;simp[mZ]at h3⊢;omega
  .split at h
   .rename_i hc
    have ai:=cC (s:=s) (k:=ak s k) (by omega);cases hp:f8 (cZ n s) s (s.size+1) true (ak s (ak s k+1)) lg [] []with
    |error p=>rw[hp]at h;simp[Ze]at h
    |ok r=>
     obtain⟨⟨ks,vs⟩,k',lg'⟩:=r;rw[hp]at h;simp only[Ze,Zk,Za]at h;obtain⟨rfl,rfl,rfl⟩:=h;have h1:=fJ s (ak s k+1);have ho:=TK hs ih _ _ _ _ _ _ _ _ _ _ (iH s _ (by omega)) rfl (by simp) (by simp) hp;refine⟨⟨ho.2.1,ho.2.2.1⟩,?_,by omega,ho.2.2.2.2.2⟩;show(123::ci true (Zh iS ks (vs.map (aF n)))++[125]).length<=_;have h2:=MG true (Zh iS ks (vs.map (aF n)));have h3:=ho.2.2.2.1;simp[mZ]at h3⊢;omega
   .cases hp:iV s (ak s k) lg with
    |error p=>rw[hp]at h;simp[Ze]at h
    |ok r=>
     obtain⟨l,k',lg'⟩:=r;rw[hp]at h;simp only[Ze,Zk,Za]at h;obtain⟨rfl,rfl,rfl⟩:=h;have ho:=T8 hs aH hp;refine⟨ho.1,Zo ho.2.1 (by omega),by omega,T6 hs aH hp⟩
end Go.Proofs.YtdlgkgfeoiohiaaGreatDoor
