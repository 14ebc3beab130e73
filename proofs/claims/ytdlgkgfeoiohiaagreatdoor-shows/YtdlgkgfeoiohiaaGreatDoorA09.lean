/- Part 9. -/
import Derived.Test.YtdlgkgfeoiohiaaGreatDoorA07
import Derived.Test.YtdlgkgfeoiohiaaGreatDoorA08
open Bool renaming false -> Zl,true -> Zo,eq_iff_iff -> Zx
open ByteArray renaming size_extract -> Zu
open Go renaming asAddr -> Zj,bodyPost_ret -> Zk
open Go.Ending renaming returned -> Zy
open Go.Lib renaming runeCells -> Zm,decodeN -> Zn,decode_at -> Zr
open Go.RowKit.Below renaming refl -> Zh
open Go.Value.int renaming injEq -> ZA
open Go.World renaming cell? -> Zq
open List renaming map_cons -> Zv,map_nil -> Zw
open List.cons renaming injEq -> Zz
open Nat renaming le_refl -> Zi,lt_or_ge -> Zt
open Option renaming none -> Zb,some -> Zg
open Prod.mk renaming injEq -> Zf
open _root_ renaming Int -> O,if_neg -> Za,if_pos -> Zc,ByteArray -> Zd,Nat -> Ze,beq_eq_false_iff_ne -> Zp
namespace Go.Proofs.YtdlgkgfeoiohiaaGreatDoor
set_option linter.unusedVariables false
set_option maxHeartbeats 16000000
set_option maxRecDepth 100000
open Go.RowKit J Tryz
variable {s u:Zd}{k k1 k2:Ze}{lo hi a b1 a2 b2:O}
theorem KY(s:Zd)(k:Ze)(lo hi:O):((lo<=gb s k/\gb s k<=hi)/\dw s k (-1) lo hi=(gb s k,k+1,-1))\/(¬(lo<=gb s k/\gb s k<=hi)/\dw s k (-1) lo hi=(0,k,(k:O))):=by
 by_cases h:lo<=gb s k/\gb s k<=hi
 .left;refine⟨h,?_⟩;rw[dw,ct,Zc h]
 .right;refine⟨h,?_⟩;rw[dw,ct,Za h,rp]
theorem G8(s:Zd)(k:Ze){bad:O}(lo hi:O)(hl:0<=lo)(h:0<=bad):dw s k bad lo hi=(0,k,bad):=by
 rw[dw,ro s k h,Za (by omega),xd k h]
theorem ahj(hl:0<lo):(lo<=pk s k/\pk s k<=hi)↔(lo<=gb s k/\gb s k<=hi):=by
 rcases Cy (s:=s) (k:=k)with⟨h,_⟩|⟨h1,h2⟩
 .rw[h]
 .rw[h1,h2];omega
theorem t9(s:Zd)(n:Ze)(hi:O)(k:Ze)(hl:0<lo):gD s (n+1) lo hi k=if lo<=gb s k/\gb s k<=hi then gD s n 128 191 (k+1)else(k,(k:O)):=by
 rw[gD];simp only[ahj hl]
theorem abD(s:Zd)(lo hi:O)(k:Ze):gD s 0 lo hi k=(k,-1):=rfl
theorem Hb(h:0<=gb s k):pk s k=gb s k:=by
 rcases Cy (s:=s) (k:=k)with⟨h,_⟩|⟨h1,h2⟩ <;> omega
theorem P5(hl:0<lo)(h:dw s k (-1) lo hi=(a,k1,b1)):gD s 1 lo hi k=(k1,b1):=by
 rw[show gD s 1 lo hi k=_ from t9 s 0 hi k hl];rcases KY s k lo hi with⟨g,e⟩|⟨g,e⟩
 .rw[e,Zf,Zf]at h;obtain⟨_,rfl,rfl⟩:=h;rw[Zc g,abD]
 .rw[e,Zf,Zf]at h;obtain⟨_,rfl,rfl⟩:=h;rw[Za g]
theorem GP(hl:0<lo)(h:dw s k (-1) lo hi=(a,k1,b1))(h2:dw s k1 b1 128 191=(a2,k2,b2)):gD s 2 lo hi k=(k2,b2):=by
 rw[show gD s 2 lo hi k=_ from t9 s 1 hi k hl];rcases KY s k lo hi with⟨g,e⟩|⟨g,e⟩
 .rw[e,Zf,Zf]at h;obtain⟨_,rfl,rfl⟩:=h;rw[Zc g];exact P5 (by omega) h2
 .rw[e,Zf,Zf]at h;obtain⟨_,rfl,rfl⟩:=h;rw[Za g];rw[G8 s _ 128 191 (by omega) (by omega),Zf,Zf]at h2;obtain⟨_,rfl,rfl⟩:=h2;rfl
theorem KD(hl:0<lo){a3:O}{k3:Ze}{b3:O}(h:dw s k (-1) lo hi=(a,k1,b1))(h2:dw s k1 b1 128 191=(a2,k2,b2))(h3:dw s k2 b2 128 191=(a3,k3,b3)):gD s 3 lo hi k=(k3,b3):=by
 rw[show gD s 3 lo hi k=_ from t9 s 2 hi k hl];rcases KY s k lo hi with⟨g,e⟩|⟨g,e⟩
 .rw[e,Zf,Zf]at h;obtain⟨_,rfl,rfl⟩:=h;rw[Zc g];exact GP (by omega) h2 h3
 .rw[e,Zf,Zf]at h;obtain⟨_,rfl,rfl⟩:=h;rw[Za g];rw[G8 s _ 128 191 (by omega) (by omega),Zf,Zf]at h2;obtain⟨_,rfl,rfl⟩:=h2;rw[G8 s _ 128 191 (by omega) (by omega),Zf,Zf]at h3;obtain⟨_,rfl,rfl⟩:=h3;rfl
theorem T4(h:127<gb s k):iU s k=et s k (-1):=by
 have hb:=iN s k;rw[iU,Hb (by omega)];obtain⟨c,hc⟩:∃c,gb s k=c:=⟨_,rfl⟩
 have y8:∀c,gb s k=c->194<=c->c<=244->dw s k (-1) 194 244=(c,k+1,-1):=λc e h1 h2=>by rw[dw,ct,e,Zc ⟨h1,h2⟩]
 have K0:∀c,gb s k=c->¬(194<=c/\c<=244)->et s k (-1)=(k,(k:O)):=λc e h1=>by
  have e1:dw s k (-1) 194 244=(0,k,(k:O)):=by rw[dw,ct,e,Za h1,rp]
  exact Iy e1 (by omega) (G8 s k 128 191 (by omega) (by omega))
 rw[hc]at h hb⊢;rcases CJ (c:=c)with⟨g,e⟩|⟨g,g',e⟩|⟨g,g',e⟩|⟨g,e⟩|⟨g,e⟩|⟨g,g',g3,e⟩|⟨g,e⟩|⟨g,g',e⟩|⟨g,e⟩|⟨g,e⟩
 .omega
 .rw[e,Zc rfl,K0 c hc (by omega)]
 .rw[e,Za (by simp)];exact(P5 (by decide) rfl).trans (Iy (y8 c hc (by omega) (by omega)) (by omega) rfl).symm
 .rw[e,Za (by simp)];exact(GP (by decide) rfl rfl).trans (Fq (y8 c hc (by omega) (by omega)) (by omega) (by omega) (by rw[Za (by omega),Zc (by omega)]) (by rw[Za (by omega),Za (by omega)]) rfl rfl).symm
 .rw[e,Za (by simp)];exact(GP (by decide) rfl rfl).trans (Fq (y8 c hc (by omega) (by omega)) (by omega) (by omega) (by rw[Za (by omega),Za (by omega)]) (by rw[Za (by omega),Zc (by omega)]) rfl rfl).symm
 .rw[e,Za (by simp)];exact(GP (by decide) rfl rfl).trans (Fq (y8 c hc (by omega) (by omega)) (by omega) (by omega) (by rw[Za (by omega),Za (by omega)]) (by rw[Za (by omega),Za (by omega)]) rfl rfl).symm
 .rw[e,Za (by simp)];exact(KD (by decide) rfl rfl rfl).trans (Fp (y8 c hc (by omega) (by omega)) (by omega) (by rw[Zc (by omega)]) (by rw[Za (by omega),Za (by omega)]) rfl rfl rfl).symm
 .rw[e,Za (by simp)];exact(KD (by decide) rfl rfl rfl).trans (Fp (y8 c hc (by omega) (by omega)) (by omega) (by rw[Za (by omega),Za (by omega)]) (by rw[Za (by omega),Za (by omega)]) rfl rfl rfl).symm
 .rw[e,Za (by simp)];exact(KD (by decide) rfl rfl rfl).trans (Fp (y8 c hc (by omega) (by omega)) (by omega) (by rw[Za (by omega),Za (by omega)]) (by rw[Zc (by omega)]) rfl rfl rfl).symm
 .rw[e,Zc rfl,K0 c hc (by omega)]
theorem T5(h0:0<=gb s k)(h:gb s k<=127):iU s k=(k+1,-1):=by
 have e:fT (gb s k)=(1,0,0):=by rw[fT,Zc (by omega)]
 rw[iU,Hb h0,e];rfl
theorem P4:∀{n:Ze} {lo hi:O} {k:Ze},0<lo->(gD s n lo hi k).2<0->(gD s n lo hi k)=(k+n,-1)/\(1<=n->lo<=gb s k/\gb s k<=hi)/\∀i,1<=i->i<n->128<=gb s (k+i)/\gb s (k+i)<=191
 |0,lo,hi,k,_,_=>⟨rfl,λh=>by omega,λi h1 h2=>by omega⟩
 |n+1,lo,hi,k,hl,h=>by
  rw[t9 s n hi k hl]at h⊢;split at h
  .rename_i g
   rw[Zc g];obtain⟨h1,h2,h3⟩:=P4 (by omega) h;refine⟨by rw[h1];congr 1;omega,λ_=>g,λi aU dL=>?_⟩;rcases(show i=1\/2<=i from by omega)with rfl|rD
   .exact h2 (by omega)
   .have:=h3 (i-1) (by omega) (by omega)
    rwa [show k+1+(i-1)=k+i by omega]at this
  .simp only at h;omega
theorem abg(t:Zd)(h:t.size=1):bv t.data.toList=[.int .u8 ((t.get! 0).toNat:O)]:=by
 obtain⟨⟨l⟩⟩:=t
 match l,h with
 |[a],_=>rfl
theorem abh(t:Zd)(h:t.size=2):bv t.data.toList=[.int .u8 ((t.get! 0).toNat:O),.int .u8 ((t.get! 1).toNat:O)]:=by
 obtain⟨⟨l⟩⟩:=t
 match l,h with
 |[a,b],_=>rfl
theorem abi(t:Zd)(h:t.size=3):bv t.data.toList=[.int .u8 ((t.get! 0).toNat:O),.int .u8 ((t.get! 1).toNat:O),.int .u8 ((t.get! 2).toNat:O)]:=by
 obtain⟨⟨l⟩⟩:=t
 match l,h with
 |[a,b,c],_=>rfl
theorem abj(t:Zd)(h:t.size=4):bv t.data.toList=[.int .u8 ((t.get! 0).toNat:O),.int .u8 ((t.get! 1).toNat:O),.int .u8 ((t.get! 2).toNat:O),.int .u8 ((t.get! 3).toNat:O)]:=by
 obtain⟨⟨l⟩⟩:=t
 match l,h with
 |[a,b,c,d],_=>rfl
theorem Bq{n i:Ze}(h:k+n<=s.size)(hi:i<n):(((s.extract k (k+n)).get! i).toNat:O)=gb s (k+i):=by
 rw[pR (show k+i<s.size by omega)];have h1:i<(s.extract k (k+n)).size:=by rw[Zu];omega
 have:(s.extract k (k+n)).get! i=(s.extract k (k+n))[i]'h1:=by
  simp only[Zd.get!,Zd.getElem_eq_getElem_data];exact getElem!_pos _ _ _
 rw[this,Zd.getElem_extract]
theorem ab8(t:Zd)(h:t.size=1)(h0:(t.get! 0).toNat<128):Zm ((Lib.decodeGo t).1:O)=bv t.data.toList:=by
 rw[Lib.decodeGo,Za (by omega),Zr,abg t h];generalize (t.get! 0).toNat=a at *
 have e:Zn (t.size-0) a (t.get! (0+1)).toNat (t.get! (0+2)).toNat (t.get! (0+3)).toNat=(a,1):=by rw[Zn,Zc h0]
 rw[e,Zm,Lib.encodeRuneZ_one (by omega) (by simp only;omega)];rfl
theorem ab9(t:Zd)(h:t.size=2)(h0:194<=(t.get! 0).toNat/\(t.get! 0).toNat<224)(h1:128<=(t.get! 1).toNat/\(t.get! 1).toNat<=191):Zm ((Lib.decodeGo t).1:O)=bv t.data.toList:=by
 rw[Lib.decodeGo,Za (by omega),Zr,abh t h,h];generalize (t.get! 0).toNat=a at *
 generalize (t.get! 1).toNat=b at *
 have e:Zn (2-0) a b (t.get! (0+2)).toNat (t.get! (0+3)).toNat=(a%32*64+b%64,2):=by
  rw[Zn,Za (by omega),Zc ⟨by omega,by omega,by omega⟩,Zc (by omega)]
 rw[e,Zm,Lib.encodeRuneZ_two (by simp only;omega) (by simp only;omega)];simp only[Zv,Zw]
 congr 2
 .omega
 .congr 2;omega
theorem KK(t:Zd)(h:t.size=3)(h0:224<=(t.get! 0).toNat/\(t.get! 0).toNat<240)(h1:128<=(t.get! 1).toNat/\(t.get! 1).toNat<=191)(h2:128<=(t.get! 2).toNat/\(t.get! 2).toNat<=191)
 (hl:(t.get! 0).toNat=224->160<=(t.get! 1).toNat) (hh:(t.get! 0).toNat=237->(t.get! 1).toNat<=159):Zm ((Lib.decodeGo t).1:O)=bv t.data.toList:=by
 rw[Lib.decodeGo,Za (by omega),Zr,abi t h,h];generalize (t.get! 0).toNat=a at *
 generalize (t.get! 1).toNat=b at *
 generalize (t.get! 2).toNat=c at *
 have e:Zn (3-0) a b c (t.get! (0+3)).toNat=(a%16*4096+b%64*64+c%64,3):=by
  rw[Zn,Za (by omega),Za (by omega),Zc ⟨by omega,⟨by omega,by omega⟩,by omega,by omega⟩,Zc (by omega)]
 rw[e,Zm,Lib.encodeRuneZ_three (by simp only;omega)];simp only[Zv,Zw];simp only[Zz,ZA,true_and,and_true];exact⟨by omega,by omega,by omega⟩
theorem KL(t:Zd)(h:t.size=4)(h0:240<=(t.get! 0).toNat/\(t.get! 0).toNat<=244)(h1:128<=(t.get! 1).toNat/\(t.get! 1).toNat<=191)(h2:128<=(t.get! 2).toNat/\(t.get! 2).toNat<=191)(h3:128<=(t.get! 3).toNat/\(t.get! 3).toNat<=191)
 (hl:(t.get! 0).toNat=240->144<=(t.get! 1).toNat) (hh:(t.get! 0).toNat=244->(t.get! 1).toNat<=143):Zm ((Lib.decodeGo t).1:O)=bv t.data.toList:=by
 rw[Lib.decodeGo,Za (by omega),Zr,abj t h,h];generalize (t.get! 0).toNat=a at *
 generalize (t.get! 1).toNat=b at *
 generalize (t.get! 2).toNat=c at *
 generalize (t.get! 3).toNat=d at *
 have e:Zn (4-0) a b c d=(a%8*262144+b%64*4096+c%64*64+d%64,4):=by
  rw[Zn,Za (by omega),Za (by omega),Za (by omega),Zc ⟨by omega,⟨by omega,by omega⟩,⟨by omega,by omega⟩,by omega,by omega⟩,Zc (by omega)]
 rw[e,Zm,Lib.encodeRuneZ_four (by simp only;omega) (by simp only;omega)];simp only[Zv,Zw];simp only[Zz,ZA,true_and,and_true];exact⟨by omega,by omega,by omega,by omega⟩
theorem T3(hg:0<=gb s k)(h:(iU s k).2<0):∃n,1<=n/\n<=4/\iU s k=(k+n,-1)/\k+n<=s.size/\Zm ((Lib.decodeGo (s.extract k (k+n))).1:O)=bv (s.extract k (k+n)).data.toList:=by
 have rG:=cC hg;have hb:=iN s k;rcases O.lt_or_le 127 (gb s k)with hgt|gW
 .obtain⟨c,hc⟩:∃c,gb s k=c:=⟨_,rfl⟩
  have em:iU s k=if(fT c).1=0 then(k,(k:O))else gD s ((fT c).1-1).toNat (fT c).2.1 (fT c).2.2 (k+1):=by rw[iU,Hb hg,hc]
  rw[em]at h⊢;rw[hc]at hgt hb;have fin:∀n lo hi,0<lo->1<=n->(gD s n lo hi (k+1)).2<0->gD s n lo hi (k+1)=(k+(n+1),-1)/\(lo<=gb s (k+1)/\gb s (k+1)<=hi)/\(∀i,1<=i->i<n->128<=gb s (k+1+i)/\gb s (k+1+i)<=191)/\k+(n+1)<=s.size:=by
   intro n lo hi hl hn hh;obtain⟨g1,g2,g3⟩:=P4 hl hh;refine⟨by rw[g1];congr 1;omega,g2 hn,g3,?_⟩;rcases(show n=1\/2<=n from by omega)with rfl|h2
   .have:=cC (s:=s) (k:=k+1) (by have:=g2 hn;omega);omega
   .have:=cC (s:=s) (k:=k+1+(n-1)) (by have:=g3 (n-1) (by omega) (by omega);omega);omega
  have b0:∀n,k+(n+1)<=s.size->(((s.extract k (k+(n+1))).get! 0).toNat:O)=c:=λn hn=>by rw[Bq hn (by omega)];exact hc
  have b1:∀n,k+(n+1)<=s.size->1<=n->(((s.extract k (k+(n+1))).get! 1).toNat:O)=gb s (k+1):=λn hn h1=>Bq hn (by omega)
  have b2:∀n,k+(n+1)<=s.size->2<=n->(((s.extract k (k+(n+1))).get! 2).toNat:O)=gb s (k+1+1):=λn hn h1=>by rw[Bq hn (by omega)]
  have b3:∀n,k+(n+1)<=s.size->3<=n->(((s.extract k (k+(n+1))).get! 3).toNat:O)=gb s (k+1+2):=λn hn h1=>by rw[Bq hn (by omega)]
  have sz:∀n,k+(n+1)<=s.size->(s.extract k (k+(n+1))).size=n+1:=λn hn=>by rw[Zu];omega
  rcases CJ (c:=c)with⟨g,e⟩|⟨g,g',e⟩|⟨g,g',e⟩|⟨g,e⟩|⟨g,e⟩|⟨g,g',g3,e⟩|⟨g,e⟩|⟨g,g',e⟩|⟨g,e⟩|⟨g,e⟩
  all_goals rw[e]at h⊢
  .omega
  .rw[Zc rfl]at h;simp only at h;omega
  .rw[Za (by simp)]at h⊢;obtain⟨f1,f2,f3,f4⟩:=fin 1 128 191 (by omega) (by omega) h;refine⟨1+1,by omega,by omega,f1,f4,ab9 _ (sz 1 f4) ?_ ?_⟩
   .have:=b0 1 f4;omega
   .have:=b1 1 f4 (by omega);omega
  .rw[Za (by simp)]at h⊢;obtain⟨f1,f2,f3,f4⟩:=fin 2 160 191 (by omega) (by omega) h;have q0:=b0 2 f4;have q1:=b1 2 f4 (by omega);have q2:=b2 2 f4 (by omega);have r1:=f3 1 (by omega) (by omega);exact⟨2+1,by omega,by omega,f1,f4,KK _ (sz 2 f4) (by omega) (by omega) (by omega) (by omega) (by omega)⟩
  .rw[Za (by simp)]at h⊢;obtain⟨f1,f2,f3,f4⟩:=fin 2 128 159 (by omega) (by omega) h;have q0:=b0 2 f4;have q1:=b1 2 f4 (by omega);have q2:=b2 2 f4 (by omega);have r1:=f3 1 (by omega) (by omega);exact⟨2+1,by omega,by omega,f1,f4,KK _ (sz 2 f4) (by omega) (by omega) (by omega) (by omega) (by omega)⟩
  .rw[Za (by simp)]at h⊢;obtain⟨f1,f2,f3,f4⟩:=fin 2 128 191 (by omega) (by omega) h;have q0:=b0 2 f4;have q1:=b1 2 f4 (by omega);have q2:=b2 2 f4 (by omega);have r1:=f3 1 (by omega) (by omega);exact⟨2+1,by omega,by omega,f1,f4,KK _ (sz 2 f4) (by omega) (by omega) (by omega) (by omega) (by omega)⟩
  .rw[Za (by simp)]at h⊢;obtain⟨f1,f2,f3,f4⟩:=fin 3 144 191 (by omega) (by omega) h;have q0:=b0 3 f4;have q1:=b1 3 f4 (by omega);have q2:=b2 3 f4 (by omega);have q3:=b3 3 f4 (by omega);have r1:=f3 1 (by omega) (by omega);have r2:=f3 2 (by omega) (by omega);exact⟨3+1,by omega,by omega,f1,f4,KL _ (sz 3 f4) (by omega) (by omega) (by omega) (by omega) (by omega) (by omega)⟩
  .rw[Za (by simp)]at h⊢;obtain⟨f1,f2,f3,f4⟩:=fin 3 128 191 (by omega) (by omega) h;have q0:=b0 3 f4;have q1:=b1 3 f4 (by omega);have q2:=b2 3 f4 (by omega);have q3:=b3 3 f4 (by omega);have r1:=f3 1 (by omega) (by omega);have r2:=f3 2 (by omega) (by omega);exact⟨3+1,by omega,by omega,f1,f4,KL _ (sz 3 f4) (by omega) (by omega) (by omega) (by omega) (by omega) (by omega)⟩
  .rw[Za (by simp)]at h⊢;obtain⟨f1,f2,f3,f4⟩:=fin 3 128 143 (by omega) (by omega) h;have q0:=b0 3 f4;have q1:=b1 3 f4 (by omega);have q2:=b2 3 f4 (by omega);have q3:=b3 3 f4 (by omega);have r1:=f3 1 (by omega) (by omega);have r2:=f3 2 (by omega) (by omega);exact⟨3+1,by omega,by omega,f1,f4,KL _ (sz 3 f4) (by omega) (by omega) (by omega) (by omega) (by omega) (by omega)⟩
  .rw[Zc rfl]at h;simp only at h;omega
 .refine⟨1,by omega,by omega,T5 hg gW,by omega,ab8 _ (by rw[Zu];omega) ?_⟩;have:=Bq (s:=s) (k:=k) (n:=1) (i:=0) (by omega) (by omega);simp only[Ze.add_zero]at this;omega
def eD(c:O):Bool:=decide ((97<=c/\c<=122)\/(65<=c/\c<=90)\/c=95)
theorem xI(c:O)(w:World)(h0:0<=c)(h1:c<=255):Calls prog 141 #[.int .u8 c] w λe w'=>e=.returned (.bool (eD c))/\w'=w:=by
 rcases(show c<65\/(65<=c/\c<=90)\/(90<c/\c<95)\/c=95\/c=96\/(97<=c/\c<=122)\/122<c from by omega)with h|h|h|h|h|h|h
 all_goals
  have HR:XX (eD c=decide ((97<=c/\c<=122)\/(65<=c/\c<=90)\/c=95)):=rfl;go_enter func141,ntmps141;go_wp2;go_ret;refine⟨?_,rfl⟩;rw[HR.o];refine congrArg (λb=>Zy (.bool b)) (?_:_=_);rw[Zx];simp
  try omega
theorem xe(c:O)(w:World)(h0:0<=c)(h1:c<=255):Calls prog 142 #[.int .u8 c] w λe w'=>e=.returned (.bool (aK c))/\w'=w:=by
 rcases(show c<48\/(48<=c/\c<=57)\/57<c from by omega)with h|h|h
 all_goals
  have HR:XX (aK c=aK c):=rfl;go_enter func142,ntmps142;go_wp2;go_ret;refine⟨?_,rfl⟩;refine congrArg (λb=>Zy (.bool b)) (?_:_=_);rw[Zx];simp[aK]
  try omega
def ea:List Zd->Zd->Bool
 |[],_=>Zl
 |k::ks,s=>if k=s then Zo else ea ks s
theorem Ho:∀(ks:List Zd) (s:Zd),ea ks s=Zo↔s∈ks
 |[],s=>by simp[ea]
 |k::ks,s=>by
  rw[ea];by_cases h:k=s
  .rw[Zc h];simp[h]
  .rw[Za h,Ho ks s,List.mem_cons];exact⟨λx=>.inr x,λx=>x.elim (λe=>absurd e.symm h) id⟩
theorem Lr(ks:List Zd)(s:Zd)(sl:Value)(w:World)(aO:ao w 9 sl (kv ks))(hl:ks.length<=1000):
 Calls prog 147 #[sl,.string s] w λe w'=>e=.returned (.bool (ea ks s))/\w'=w:=by
 have dO:(kv ks).length=ks.length:=by simp[kv]
 have AF:XX ((sl=.slice Zb 0 0/\ks=[])\/∃g cap,sl=.slice (Zg ⟨g,0,Zb⟩) ks.length cap/\∀j k',ks[j]?=Zg k'->w.cell? ⟨g,j,Zb⟩=Zg (.string k')):=by
  rcases aO.len with⟨h1,h2⟩|⟨g,cap,h1,h2⟩
  .exact Or.inl ⟨h1,by simpa[kv]using h2⟩
  .right
   refine⟨g,cap,by rw[h1,dO],?_⟩;intro j k' h;rw[h1]at aO;exact aO.get (by simp[kv,h])
 obtain⟨B,hB⟩:∃B,B=ea ks s:=⟨_,rfl⟩
 have HB:XX (B=ea ks s):=hB;rw[<-hB];clear aO dO hB;rcases AF.o with⟨rfl,rfl⟩|⟨g,cap,rfl,hc⟩
 .have K3:B=Zl:=by rw[HB.o];rfl
  subst K3;go_enter func147,ntmps147;go_wp2_with fail;go_loopg [5] 1 (λg iv wr=>w=wr/\iv=.int .i64 0)
  case atStart=>exact⟨rfl,rfl⟩
  case round=>
   obtain⟨rfl,rfl⟩:=hrel;go_wp2;go_ret;exact⟨rfl,rfl⟩
 .have HC:XX (∀j k',ks[j]?=Zg k'->w.cell? ⟨g,j,Zb⟩=Zg (.string k')):=hc;clear hc AF;go_enter func147,ntmps147;go_wp2_with fail;go_loopg [5] (ks.length+1) (λgh iv wr=>w=wr/\∃i:Ze,i<=ks.length/\gh=ks.length+1-i/\iv=.int .i64 i/\∀j,j<i->ks[j]?≠Zg s)
  case atStart=>exact⟨rfl,0,by omega,by omega,rfl,λj hj=>by omega⟩
  case round=>
   obtain⟨rfl,i,hi,hg,rfl,dM⟩:=hrel;have HG:XX (gk=ks.length+1-i):=hg;have ga:XX (∀j,j<i->ks[j]?≠Zg s):=dM;clear hg dM;by_cases ai:i<ks.length
   .obtain⟨ki,kj⟩:∃ki,ks[i]?=Zg ki:=⟨ks[i]'ai,List.getElem?_eq_getElem ai⟩
    have ck:=HC.o i ki kj;have OK:XX (ks[i]?=Zg ki):=kj;clear kj;by_cases xy:ki=s
    .have ul:=xU xy;have y9:B=Zo:=by rw[HB.o,Ho,<-xy];exact List.mem_of_getElem? OK.o
     subst y9;clear xy;go_wp2;go_ret;exact⟨rfl,rfl⟩
    .have bj:=ww xy;have tI:XX (ki≠s):=xy;clear xy;go_wp2;go_roundg (ks.length+1-(i+1))
     case measure=>rw[HG.o];omega
     case rel=>
      refine⟨rfl,i+1,by omega,rfl,by go_num,λj hj=>?_⟩;by_cases h:j=i
      .subst h;rw[OK.o];intro e;injection e with e;exact tI.o e
      .exact ga.o j (by omega)
   .have K3:B=Zl:=by
     rw[<-Bool.not_eq_true,HB.o,Ho];intro hm;obtain⟨j,hj⟩:=List.mem_iff_getElem?.1 hm;exact ga.o j (by have:=(List.getElem?_eq_some_iff.1 hj).1;omega) hj
    subst K3;go_wp2;go_ret;exact⟨rfl,rfl⟩
def bD(kind at':O)(s:Zd)(n:O)(v:Value):Value:=.agg #[.int .u8 kind,.int .i64 at',.string s,.int .i64 n,v]
theorem iw(b:Ze)(x0 x1 x2 x3 x4:Value)(W:World)(hb:W.heap[b]?=Zg (.cells #[x0,x1,x2,x3,x4] 128 (0,0))):(loadVar 128 ⟨b,0,Zb⟩).run prog W=.ok (.agg #[x0,x1,x2,x3,x4]) W:=by
 have c0:W.cell? ⟨b,0,Zb⟩=Zg x0:=by simp[Zq,hb]
 have c1:W.cell? ⟨b,1,Zb⟩=Zg x1:=by simp[Zq,hb]
 have c2:W.cell? ⟨b,2,Zb⟩=Zg x2:=by simp[Zq,hb]
 have c3:W.cell? ⟨b,3,Zb⟩=Zg x3:=by simp[Zq,hb]
 have c4:W.cell? ⟨b,4,Zb⟩=Zg x4:=by simp[Zq,hb]
 simp[loadVar,isAgg,underlying,underlying128,loadCells,loadCellsFrom,Addr.add,c0,c1,c2,c3,c4,Result.andThen]
theorem ew{j:Ze}(h:j<u.size):gb u j=((u[j]'h).toNat:O):=by rw[gb,dif_pos h]
def wv(u:Zd)(fr:Ze):Ze->O
 |0=>0
 |m+1=>10*wv u fr m+(gb u (fr+m)-48)
theorem FSz{u:Zd}{fr:Ze}:∀m,fr+m<=aA u fr->m<=7->0<=wv u fr m/\wv u fr m<10^m
 |0,_,_=>by simp[wv]
 |m+1,h,h7=>by
  have ih:=FSz (u:=u) (fr:=fr) m (by omega) (by omega);have hd:=IW (s:=u) (k:=fr) (i:=fr+m) (by omega) (by omega);have BF:48<=gb u (fr+m)/\gb u (fr+m)<=57:=by simpa[aK]using hd
  rw[wv,O.pow_succ];omega
theorem CS{fr:Ze}(m:Ze)(h:fr+m<=aA u fr)(h7:m<=7):0<=wv u fr m/\wv u fr m<=10000000:=by
 have h1:=FSz m h h7;have h2:(10:O)^m<=10^7:=by
  rcases(show m=0\/m=1\/m=2\/m=3\/m=4\/m=5\/m=6\/m=7 from by omega)with h|h|h|h|h|h|h|h <;> subst h <;> decide
 have h3:(10:O)^7=10000000:=by decide
 omega
def ia(u:Zd):O×Ze:=
 if aA u (if gb u 0=45 then 1 else 0)=(if gb u 0=45 then 1 else 0)\/6<aA u (if gb u 0=45 then 1 else 0)-(if gb u 0=45 then 1 else 0)\/(1<aA u (if gb u 0=45 then 1 else 0)-(if gb u 0=45 then 1 else 0)/\gb u (if gb u 0=45 then 1 else 0)=48)then(0,0)
 else((if gb u 0=45 then-wv u 1 (aA u 1-1)else wv u 0 (aA u 0)),aA u (if gb u 0=45 then 1 else 0))
def rj(T:O×Ze)(t:Value):Prop:=t=if T.2=0 then bD 120 0 ⟨#[]⟩ 0 (.pointer Zb)else bD 110 0 ⟨#[]⟩ T.1 (.pointer Zb)
theorem aj5(u:Zd)(w:World)(hs:u.size<=1000)(h0:0<u.size):
 Calls prog 146 #[.string u] w λe w'=>∃t,e=.returned (.tuple #[t,.int .i64 (ia u).2])/\Below w.heap.size w w'/\XX (rj (ia u) t):=by
 obtain⟨T,hT⟩:∃T,T=ia u:=⟨_,rfl⟩
 have HT:XX (T=ia u):=hT;rw[<-hT];clear hT;have fO:=ew h0;by_cases ey:gb u 0=45
 .have adG:(((u[0]'h0).toNat:O)==45)=Zo:=by rw[<-fO,ey];rfl
  have hrs:=nK u 1 (by omega);have Ig:=qh u 1;have gw:XX (T=if aA u 1=1\/6<aA u 1-1\/(1<aA u 1-1/\gb u 1=48)then(0,0)else(- wv u 1 (aA u 1-1),aA u 1)):=by show _=_;rw[HT.o,ia];simp only[ey,if_true]
  clear fO ey;go_enter func146,ntmps146;go_wp2_with fail;obtain⟨W,hW⟩:∃W,W=w.alloc (.cells #[.int .u8 0,.int .i64 0,.string ⟨#[]⟩,.int .i64 0,.pointer Zb] 128):=⟨_,rfl⟩
  go_loopg [4,6] (u.size+1-1) (λg iv nv wr=>wr=W/\∃j:Ze,1<=j/\j<=u.size/\g=u.size+1-j/\aA u j=aA u 1/\iv=.int .i64 j/\nv=.int .i64 (wv u 1 (min (j-1) 7)))
  case atStart=>exact⟨hW.symm,1,by omega,by omega,rfl,rfl,rfl,by simp[wv]⟩
  case round=>
   obtain⟨rfl,j,l8,nu,hg,qN,rfl,rfl⟩:=hrel;have HG:XX (gk=u.size+1-j):=hg;have ms:XX (aA u j=aA u 1):=qN;have zw:j<=aA u 1:=by rw[<-qN];exact qh u j
   clear hg qN;by_cases hd:aK (gb u j)=Zo
   .have fY:j<u.size:=by
     rcases Zt j u.size with h|h
     .exact h
     .rw[nS h]at hd;simp[aK]at hd
    have qH:48<=gb u j/\gb u j<=57:=by simpa[aK]using hd
    have vQ:aA u (j+1)=aA u 1:=by rw[<-ms.o];exact(uG hd).symm
    have yw:XX (aA u (j+1)=aA u 1):=vQ;have aet:j+1<=aA u 1:=by rw[<-vQ];exact qh u (j+1)
    rw[ew fY]at qH;have kK:=CS (u:=u) (fr:=1) (min (j-1) 7) (by omega) (by omega);by_cases h7:j-1<7
    .have sD:XX (10*wv u 1 (min (j-1) 7)+(((u[j]'fY).toNat:O)-48)=wv u 1 (min (j+1-1) 7)):=by
      show _=_;rw[show min (j-1) 7=j-1 by omega,show min (j+1-1) 7=(j-1)+1 by omega,wv,show 1+(j-1)=j by omega,ew fY]
     obtain⟨V,hV⟩:∃V,V=wv u 1 (min (j-1) 7):=⟨_,rfl⟩
     rw[<-hV]at kK sD⊢;have K2:(j:O)-1<7:=by omega
     clear hd vQ hV;go_wp2;go_roundg (u.size+1-(j+1))
     case measure=>rw[HG.o];omega
     case rel=>exact⟨hW.symm,j+1,by omega,by omega,rfl,yw.o,by go_num,by rw[sD.o]⟩
    .have sD:XX (wv u 1 (min (j-1) 7)=wv u 1 (min (j+1-1) 7)):=by
      show _=_;rw[show min (j-1) 7=7 by omega,show min (j+1-1) 7=7 by omega]
     obtain⟨V,hV⟩:∃V,V=wv u 1 (min (j-1) 7):=⟨_,rfl⟩
     rw[<-hV]at kK sD⊢;have K2:¬(j:O)-1<7:=by omega
     clear hd vQ hV;go_wp2;go_roundg (u.size+1-(j+1))
     case measure=>rw[HG.o];omega
     case rel=>exact⟨hW.symm,j+1,by omega,by omega,rfl,yw.o,by go_num,by rw[sD.o]⟩
   .have E9:aA u 1=j:=by rw[<-ms.o];exact FE (by simpa using hd)
    have dy:j=u.size\/∃h:j<u.size,((u[j]'h).toNat:O)<48\/57<((u[j]'h).toNat:O):=by
     rcases Zt j u.size with h|h
     .right
      refine⟨h,?_⟩;have BF:¬(48<=gb u j/\gb u j<=57):=by simpa[aK]using hd
      rw[ew h]at BF;omega
     .left;omega
    rw[E9]at gw zw;have kK:=CS (u:=u) (fr:=1) (min (j-1) 7) (by omega) (by omega);obtain⟨V,hV⟩:∃V,V=wv u 1 (min (j-1) 7):=⟨_,rfl⟩
    have HV:XX (V=wv u 1 (min (j-1) 7)):=hV;rw[<-hV]at kK⊢;clear hd hV E9 ms HG;have sQ:¬((j:O)<(u.size:O))\/∃h:j<u.size,((u[j]'h).toNat:O)<48\/57<((u[j]'h).toNat:O):=by
     rcases dy with h|h
     .left;omega
     .exact .inr h
    clear dy;rcases(show j=1\/(j≠1/\6<j-1)\/(j≠1/\j-1<=6/\1<j-1)\/j=2 from by omega)with hl|hl|hl|hl
    .have HF:XX (T=(0,0)):=by show _=_;rw[gw.o,Zc (.inl hl)]
     subst hl;clear gw l8 zw;rcases sQ with dy|⟨fY,dy|dy⟩
     all_goals
      go_wp2;have hl:=iw w.heap.size _ _ _ _ _ _ (aE (W:=w) (o:=.cells #[.int .u8 120,.int .i64 0,.string ⟨#[]⟩,.int .i64 0,.pointer Zb] 128) rfl);refine Zk (v:=.tuple #[bD 120 0 ⟨#[]⟩ 0 (.pointer Zb),.int .i64 0]) (by simp[results,results146,bD,Zj,hl]) rfl ?_;rw[HF.o];exact⟨_,rfl,(Zh _ w).alloc (Zi _) _,rfl⟩
    .have HF:XX (T=(0,0)):=by show _=_;rw[gw.o,Zc (.inr (.inl (by omega)))]
     have e0:(((j:O)-1)==0)=Zl:=Zp.2 (by omega);have e6:6<(j:O)-1:=by omega
     clear gw hl;rcases sQ with dy|⟨fY,dy|dy⟩
     all_goals
      go_wp2;have hl:=iw w.heap.size _ _ _ _ _ _ (aE (W:=w) (o:=.cells #[.int .u8 120,.int .i64 0,.string ⟨#[]⟩,.int .i64 0,.pointer Zb] 128) rfl);refine Zk (v:=.tuple #[bD 120 0 ⟨#[]⟩ 0 (.pointer Zb),.int .i64 0]) (by simp[results,results146,bD,Zj,hl]) rfl ?_;rw[HF.o];exact⟨_,rfl,(Zh _ w).alloc (Zi _) _,rfl⟩
    .have e0:(((j:O)-1)==0)=Zl:=Zp.2 (by omega);have e6:¬6<(j:O)-1:=by omega
     have e1:1<(j:O)-1:=by omega
     have rz:1<u.size:=by omega
     have yB:XX (wv u 1 (j-1)=V):=by show _=_;rw[HV.o,show min (j-1) 7=j-1 by omega]
     by_cases dA:gb u 1=48
     .have HF:XX (T=(0,0)):=by show _=_;rw[gw.o,Zc (.inr (.inr ⟨by omega,dA⟩))]
      have e48:(((u[1]'rz).toNat:O)==48)=Zo:=by rw[<-ew rz,dA];rfl
      clear gw hl dA;rcases sQ with dy|⟨fY,dy|dy⟩
      all_goals
       go_wp2;have hl:=iw w.heap.size _ _ _ _ _ _ (aE (W:=w) (o:=.cells #[.int .u8 120,.int .i64 0,.string ⟨#[]⟩,.int .i64 0,.pointer Zb] 128) rfl);refine Zk (v:=.tuple #[bD 120 0 ⟨#[]⟩ 0 (.pointer Zb),.int .i64 0]) (by simp[results,results146,bD,Zj,hl]) rfl ?_;rw[HF.o];exact⟨_,rfl,(Zh _ w).alloc (Zi _) _,rfl⟩
     .have HF:XX (T=(-V,j)):=by
       show _=_;rw[gw.o,Za (by rintro(h|h|h) <;> first|omega|exact dA h.2),yB.o]
      have e48:(((u[1]'rz).toNat:O)==48)=Zl:=by rw[<-ew rz];exact Zp.2 dA
      clear gw hl dA;rcases sQ with dy|⟨fY,dy|dy⟩
      all_goals
       go_wp2;have hl:=iw w.heap.size _ _ _ _ _ _ (aE (W:=w) (o:=.cells #[.int .u8 110,.int .i64 0,.string ⟨#[]⟩,.int .i64 (-V),.pointer Zb] 128) rfl);refine Zk (v:=.tuple #[bD 110 0 ⟨#[]⟩ (-V) (.pointer Zb),.int .i64 j]) (by simp[results,results146,bD,Zj,hl]) rfl ?_;rw[HF.o];exact⟨_,rfl,(Zh _ w).alloc (Zi _) _,by show rj _ _;rw[rj,Za (by simp only;omega)]⟩
    .have yB:XX (wv u 1 1=V):=by show _=_;rw[HV.o,hl];rfl
     have HF:XX (T=(-V,2)):=by
      show _=_;rw[gw.o,hl,Za (by rintro(h|h|h) <;> omega),yB.o]
     subst hl;clear gw l8 zw;rcases sQ with dy|⟨fY,dy|dy⟩
     all_goals
      go_wp2;have hl:=iw w.heap.size _ _ _ _ _ _ (aE (W:=w) (o:=.cells #[.int .u8 110,.int .i64 0,.string ⟨#[]⟩,.int .i64 (-V),.pointer Zb] 128) rfl);refine Zk (v:=.tuple #[bD 110 0 ⟨#[]⟩ (-V) (.pointer Zb),.int .i64 2]) (by simp[results,results146,bD,Zj,hl]) rfl ?_;rw[HF.o];exact⟨_,rfl,(Zh _ w).alloc (Zi _) _,by show rj _ _;rw[rj,Za (by simp only;omega)]⟩
 .have adG:(((u[0]'h0).toNat:O)==45)=Zl:=by rw[<-fO];exact Zp.2 ey
  have hrs:=nK u 0 (by omega);have Ig:=qh u 0;have gw:XX (T=if aA u 0=0\/6<aA u 0\/(1<aA u 0/\gb u 0=48)then(0,0)else(wv u 0 (aA u 0),aA u 0)):=by show _=_;rw[HT.o,ia];simp only[ey,if_false,Ze.sub_zero]
  clear fO ey;go_enter func146,ntmps146;go_wp2_with fail;obtain⟨W,hW⟩:∃W,W=w.alloc (.cells #[.int .u8 0,.int .i64 0,.string ⟨#[]⟩,.int .i64 0,.pointer Zb] 128):=⟨_,rfl⟩
  go_loopg [4,6] (u.size+1) (λg iv nv wr=>wr=W/\∃j:Ze,0<=j/\j<=u.size/\g=u.size+1-j/\aA u j=aA u 0/\iv=.int .i64 j/\nv=.int .i64 (wv u 0 (min (j) 7)))
  case atStart=>exact⟨hW.symm,0,by omega,by omega,by omega,rfl,rfl,by simp[wv]⟩
  case round=>
   obtain⟨rfl,j,l8,nu,hg,qN,rfl,rfl⟩:=hrel;have HG:XX (gk=u.size+1-j):=hg;have ms:XX (aA u j=aA u 0):=qN;have zw:j<=aA u 0:=by rw[<-qN];exact qh u j
   clear hg qN;by_cases hd:aK (gb u j)=Zo
   .have fY:j<u.size:=by
     rcases Zt j u.size with h|h
     .exact h
     .rw[nS h]at hd;simp[aK]at hd
    have qH:48<=gb u j/\gb u j<=57:=by simpa[aK]using hd
    have vQ:aA u (j+1)=aA u 0:=by rw[<-ms.o];exact(uG hd).symm
    have yw:XX (aA u (j+1)=aA u 0):=vQ;have aet:j+1<=aA u 0:=by rw[<-vQ];exact qh u (j+1)
    rw[ew fY]at qH;have kK:=CS (u:=u) (fr:=0) (min (j) 7) (by omega) (by omega);by_cases h7:j<7
    .have sD:XX (10*wv u 0 (min (j) 7)+(((u[j]'fY).toNat:O)-48)=wv u 0 (min (j+1) 7)):=by
      show _=_;rw[show min (j) 7=j by omega,show min (j+1) 7=(j)+1 by omega,wv,show 0+j=j by omega,ew fY]
     obtain⟨V,hV⟩:∃V,V=wv u 0 (min (j) 7):=⟨_,rfl⟩
     rw[<-hV]at kK sD⊢;have K2:(j:O)<7:=by omega
     clear hd vQ hV;go_wp2;go_roundg (u.size+1-(j+1))
     case measure=>rw[HG.o];omega
     case rel=>exact⟨hW.symm,j+1,by omega,by omega,rfl,yw.o,by go_num,by rw[sD.o]⟩
    .have sD:XX (wv u 0 (min (j) 7)=wv u 0 (min (j+1) 7)):=by
      show _=_;rw[show min (j) 7=7 by omega,show min (j+1) 7=7 by omega]
     obtain⟨V,hV⟩:∃V,V=wv u 0 (min (j) 7):=⟨_,rfl⟩
     rw[<-hV]at kK sD⊢;have K2:¬(j:O)<7:=by omega
     clear hd vQ hV;go_wp2;go_roundg (u.size+1-(j+1))
     case measure=>rw[HG.o];omega
     case rel=>exact⟨hW.symm,j+1,by omega,by omega,rfl,yw.o,by go_num,by rw[sD.o]⟩
   .have E9:aA u 0=j:=by rw[<-ms.o];exact FE (by simpa using hd)
    have dy:j=u.size\/∃h:j<u.size,((u[j]'h).toNat:O)<48\/57<((u[j]'h).toNat:O):=by
     rcases Zt j u.size with h|h
     .right
      refine⟨h,?_⟩;have BF:¬(48<=gb u j/\gb u j<=57):=by simpa[aK]using hd
      rw[ew h]at BF;omega
     .left;omega
    rw[E9]at gw zw;have kK:=CS (u:=u) (fr:=0) (min (j) 7) (by omega) (by omega);obtain⟨V,hV⟩:∃V,V=wv u 0 (min (j) 7):=⟨_,rfl⟩
    have HV:XX (V=wv u 0 (min (j) 7)):=hV;rw[<-hV]at kK⊢;clear hd hV E9 ms HG;have sQ:¬((j:O)<(u.size:O))\/∃h:j<u.size,((u[j]'h).toNat:O)<48\/57<((u[j]'h).toNat:O):=by
     rcases dy with h|h
     .left;omega
     .exact .inr h
    clear dy;rcases(show j=0\/(j≠0/\6<j)\/(j≠0/\j<=6/\1<j)\/j=1 from by omega)with hl|hl|hl|hl
    .have HF:XX (T=(0,0)):=by show _=_;rw[gw.o,Zc (.inl hl)]
     subst hl;clear gw l8 zw;rcases sQ with dy|⟨fY,dy|dy⟩
     .exact absurd h0 (by simpa using dy)
     all_goals
      go_wp2;have hl:=iw w.heap.size _ _ _ _ _ _ (aE (W:=w) (o:=.cells #[.int .u8 120,.int .i64 0,.string ⟨#[]⟩,.int .i64 0,.pointer Zb] 128) rfl);refine Zk (v:=.tuple #[bD 120 0 ⟨#[]⟩ 0 (.pointer Zb),.int .i64 0]) (by simp[results,results146,bD,Zj,hl]) rfl ?_;rw[HF.o];exact⟨_,rfl,(Zh _ w).alloc (Zi _) _,rfl⟩
    .have HF:XX (T=(0,0)):=by show _=_;rw[gw.o,Zc (.inr (.inl (by omega)))]
     have e0:(((j:O))==0)=Zl:=Zp.2 (by omega);have e6:6<(j:O):=by omega
     clear gw hl;rcases sQ with dy|⟨fY,dy|dy⟩
     all_goals
      go_wp2;have hl:=iw w.heap.size _ _ _ _ _ _ (aE (W:=w) (o:=.cells #[.int .u8 120,.int .i64 0,.string ⟨#[]⟩,.int .i64 0,.pointer Zb] 128) rfl);refine Zk (v:=.tuple #[bD 120 0 ⟨#[]⟩ 0 (.pointer Zb),.int .i64 0]) (by simp[results,results146,bD,Zj,hl]) rfl ?_;rw[HF.o];exact⟨_,rfl,(Zh _ w).alloc (Zi _) _,rfl⟩
    .have e0:(((j:O))==0)=Zl:=Zp.2 (by omega);have e6:¬6<(j:O):=by omega
     have e1:1<(j:O):=by omega
     have rz:0<u.size:=by omega
     have yB:XX (wv u 0 (j)=V):=by show _=_;rw[HV.o,show min (j) 7=j by omega]
     by_cases dA:gb u 0=48
     .have HF:XX (T=(0,0)):=by show _=_;rw[gw.o,Zc (.inr (.inr ⟨by omega,dA⟩))]
      have e48:(((u[0]'rz).toNat:O)==48)=Zo:=by rw[<-ew rz,dA];rfl
      clear gw hl dA;rcases sQ with dy|⟨fY,dy|dy⟩
      all_goals
       go_wp2;have hl:=iw w.heap.size _ _ _ _ _ _ (aE (W:=w) (o:=.cells #[.int .u8 120,.int .i64 0,.string ⟨#[]⟩,.int .i64 0,.pointer Zb] 128) rfl);refine Zk (v:=.tuple #[bD 120 0 ⟨#[]⟩ 0 (.pointer Zb),.int .i64 0]) (by simp[results,results146,bD,Zj,hl]) rfl ?_;rw[HF.o];exact⟨_,rfl,(Zh _ w).alloc (Zi _) _,rfl⟩
     .have HF:XX (T=(V,j)):=by
       show _=_;rw[gw.o,Za (by rintro(h|h|h) <;> first|omega|exact dA h.2),yB.o]
      have e48:(((u[0]'rz).toNat:O)==48)=Zl:=by rw[<-ew rz];exact Zp.2 dA
      clear gw hl dA;rcases sQ with dy|⟨fY,dy|dy⟩
      all_goals
       go_wp2;have hl:=iw w.heap.size _ _ _ _ _ _ (aE (W:=w) (o:=.cells #[.int .u8 110,.int .i64 0,.string ⟨#[]⟩,.int .i64 (V),.pointer Zb] 128) rfl);refine Zk (v:=.tuple #[bD 110 0 ⟨#[]⟩ (V) (.pointer Zb),.int .i64 j]) (by simp[results,results146,bD,Zj,hl]) rfl ?_;rw[HF.o];exact⟨_,rfl,(Zh _ w).alloc (Zi _) _,by show rj _ _;rw[rj,Za (by simp only;omega)]⟩
    .have yB:XX (wv u 0 1=V):=by show _=_;rw[HV.o,hl];rfl
     have HF:XX (T=(V,1)):=by
      show _=_;rw[gw.o,hl,Za (by rintro(h|h|h) <;> omega),yB.o]
     subst hl;clear gw l8 zw;rcases sQ with dy|⟨fY,dy|dy⟩
     all_goals
      go_wp2;have hl:=iw w.heap.size _ _ _ _ _ _ (aE (W:=w) (o:=.cells #[.int .u8 110,.int .i64 0,.string ⟨#[]⟩,.int .i64 (V),.pointer Zb] 128) rfl);refine Zk (v:=.tuple #[bD 110 0 ⟨#[]⟩ (V) (.pointer Zb),.int .i64 1]) (by simp[results,results146,bD,Zj,hl]) rfl ?_;rw[HF.o];exact⟨_,rfl,(Zh _ w).alloc (Zi _) _,by show rj _ _;rw[rj,Za (by simp only;omega)]⟩
end Go.Proofs.YtdlgkgfeoiohiaaGreatDoor
