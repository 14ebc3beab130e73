/- Part 11. -/
import Derived.Test.YtdlgkgfeoiohiaaGreatDoorA09
import Derived.Test.YtdlgkgfeoiohiaaGreatDoorA10
open Bool renaming false -> Zk,true -> Zn
open ByteArray renaming mk -> Zq,size_extract -> ZH
open Go renaming World -> Zh,Calls -> Zi
open Go.Lib renaming runeCells -> Zo,hasPrefix -> Zr,trimPrefix -> Zu
open Go.RowKit.Below renaming heap_alloc -> ZG
open Int renaming add_zero -> Zv,add_assoc -> ZB,add_mul -> ZC,mul_assoc -> ZD,mul_nonneg -> ZE,mul_le_mul_of_nonneg_right -> ZI,mul_one -> ZJ,pow_add -> ZK,pow_zero -> ZL
open List renaming length_append -> Zp,cons_append -> Zt,getLast?_cons_cons -> Zw,map_cons -> Zx,map_nil -> Zy,nil_append -> Zz,isPrefixOf -> ZM,length -> ZN,length_nil -> ZO,mem_append_left -> ZP,mem_append_right -> ZQ,mem_of_getElem? -> ZU
open Nat renaming pow_le_pow_right -> ZV
open Option renaming some -> Zf,none -> Zl
open UInt8 renaming ofNat -> ZA
open _root_ renaming Int -> O,if_neg -> Za,List -> Zb,UInt8 -> Zc,if_pos -> Zd,Nat -> Ze,ByteArray -> Zg,absurd -> Zj,Bool -> Zm
namespace Go.Proofs.YtdlgkgfeoiohiaaGreatDoor
set_option linter.unusedVariables false
set_option maxHeartbeats 16000000
set_option maxRecDepth 100000
open Go.RowKit J Tryz
variable {s:Zg}{J:Addr}{w w':Zh}{k b N:Ze}{c x:Zc}{l:Zb Zc}{op:O}{lg:Zm}
theorem Ve(s:Zg)(k:Ze)(low:Zm):((dZ s low 4 0 k).2.2=-1/\0<=(dZ s low 4 0 k).1/\(dZ s low 4 0 k).1<=65535/\(dZ s low 4 0 k).2.1<=s.size)\/(0<=(dZ s low 4 0 k).2.2/\(dZ s low 4 0 k).1=0):=by
 cases low
 .obtain⟨a,k1,b1,h1⟩:∃a k1 b1,bQ s k (-1) 0 15=(a,k1,b1):=⟨_,_,_,rfl⟩
  obtain⟨m,hm⟩:∃m:O,m=if a=13 then 11 else 15:=⟨_,rfl⟩
  obtain⟨b,k2,b2,h2⟩:∃b k2 b2,bQ s k1 b1 0 m=(b,k2,b2):=⟨_,_,_,rfl⟩
  obtain⟨c,k3,b3,h3⟩:∃c k3 b3,bQ s k2 b2 0 15=(c,k3,b3):=⟨_,_,_,rfl⟩
  obtain⟨d,k4,b4,h4⟩:∃d k4 b4,bQ s k3 b3 0 15=(d,k4,b4):=⟨_,_,_,rfl⟩
  rcases Vg h1 hm h2 h3 h4 with⟨aB,hu⟩|⟨aB,em,hu⟩
  .have ET:=kg h4 (by omega);have lu:=kg h3 (by omega);have qI:=kg h2 (by omega);have mJ:=kg h1 (by omega);have o9:m<=15:=by split at hm <;> omega
   left;rw[hu];exact⟨aB,by simp only;omega,by simp only;omega,by simp only;omega⟩
  .right;rw[hu];exact⟨aB,rfl⟩
 .obtain⟨a,k1,b1,h1⟩:∃a k1 b1,bQ s k (-1) 13 13=(a,k1,b1):=⟨_,_,_,rfl⟩
  obtain⟨b,k2,b2,h2⟩:∃b k2 b2,bQ s k1 b1 12 15=(b,k2,b2):=⟨_,_,_,rfl⟩
  obtain⟨c,k3,b3,h3⟩:∃c k3 b3,bQ s k2 b2 0 15=(c,k3,b3):=⟨_,_,_,rfl⟩
  obtain⟨d,k4,b4,h4⟩:∃d k4 b4,bQ s k3 b3 0 15=(d,k4,b4):=⟨_,_,_,rfl⟩
  rcases Vh h1 h2 h3 h4 with⟨aB,hu⟩|⟨aB,em,hu⟩
  .have ET:=kg h4 (by omega);have lu:=kg h3 (by omega);have qI:=kg h2 (by omega);have mJ:=kg h1 (by omega)
   left;rw[hu];exact⟨aB,by simp only;omega,by simp only;omega,by simp only;omega⟩
  .right;rw[hu];exact⟨aB,rfl⟩
theorem Vq:∀{l:Zb Zc} {k:Ze},k<=s.size->(aQ s k (-1) l).1<=s.size
 |[],k,h=>h
 |c::l,k,h=>by
  rw[aQ];split
  .rename_i hc
   exact Vq (qC (s:=s) (k:=k) (bad:=-1) (by omega)).1
  .exact h
theorem ad2(b:Ze)(s:Zg)(k:Ze)(op:O)(lg:Zm)(w:Zh)(hp:PS w b s k op lg J)(hk:k<=s.size)(hs:s.size<=1000):
 Zi prog 151 #[.pointer (Zf ⟨b,0,Zl⟩)] w λe w'=>∃X,e=.returned (.tuple #[.int .i32 X,fK J (lx s k).2])/\XX ((lx s k).2.2<0->X=(lx s k).1)/\ab b w w'/\PS w' b s (lx s k).2.1 op lg J:=by
 have HP:XX (PS w b s k op lg J):=hp;have Mr:=Ve s k Zk;obtain⟨u,ku,bu,hU⟩:∃u ku bu,dZ s Zk 4 0 k=(u,ku,bu):=⟨_,_,_,rfl⟩
 have HU:XX (dZ s Zk 4 0 k=(u,ku,bu)):=hU;obtain⟨R,hR⟩:∃R,R=lx s k:=⟨_,rfl⟩
 have HR:XX (R=lx s k):=hR;rw[<-hR];rw[hU]at Mr;simp only at Mr;clear hp hU hR;rcases Mr with⟨LA,hu0,hu1,EX⟩|⟨LA,rfl⟩
 .subst LA;by_cases h54:u/1024=54
  .have ik:55296<=u:=by omega
   have rC:u<=56319:=by omega
   have ada:(u/1024 != 54)=Zk:=by rw[bne_eq_false_iff_eq];exact h54
   have SO:=@Jl s [92,117] ku;have Im:=@Vq s [92,117] ku EX;obtain⟨kw,bw,hW⟩:∃kw bw,aQ s ku (-1) [92,117]=(kw,bw):=⟨_,_,rfl⟩
   have HW:XX (aQ s ku (-1) [92,117]=(kw,bw)):=hW;rw[hW]at SO Im;simp only at SO Im;clear hW;by_cases ed:0<=bw
   .have HF:XX (R=(0,kw,bw)):=by
     show _=_;rw[HR.o,lx,HU.o];simp only;rw[Za (by omega),HW.o];simp only;rw[Zd ed]
    have rv:bw=(kw:O):=by omega
    go_enter func151,ntmps151;go_wp2_with fail;refine(FN b s k op lg Zk _ HP.o hk hs).mono ?_;rintro e w1 ⟨rfl,ae,aC⟩;rw[HU.o]at aC;rw[HU.o,rW,Zd (by simp)];go_wp2_with fail;refine(Fz b s ⟨#[92,117]⟩ ku op lg _ aC EX hs (by decide) (by decide)).mono ?_;rintro e w2 ⟨rfl,ah,bb⟩;rw[show(Zq #[92,117]).data.toList=[92,117]from rfl,HW.o]at bb;rw[show(Zq #[92,117]).data.toList=[92,117]from rfl,HW.o,fK,Za (by simp only;omega),aG];go_wp2_with fail;go_ret2;refine⟨0,?_,by rw[HF.o];exact λh=>Zj h (by simp only;omega),ae.trans ah,by rw[HF.o];exact bb⟩;rw[HF.o,fK,Za (by simp only;omega)];rfl
   .have adQ:bw=-1:=by omega
    subst adQ;have nC:=Ve s kw Zn;obtain⟨v,kv',bv',hV⟩:∃v kv' bv',dZ s Zn 4 0 kw=(v,kv',bv'):=⟨_,_,_,rfl⟩
    have HV:XX (dZ s Zn 4 0 kw=(v,kv',bv')):=hV;rw[hV]at nC;simp only at nC;clear hV;have HF:XX (R=(65536+(u-55296)*1024+(v-56320),kv',bv')):=by
     show _=_;rw[HR.o,lx,HU.o];simp only;rw[Za (by omega),HW.o];simp only;rw[Za (by omega),HV.o]
    have zO:0<=v:=by omega
    have xD:v<=65535:=by omega
    have aV:XX (bv'=-1\/(0<=bv'/\v=0)):=by show bv'=-1\/(0<=bv'/\v=0);omega
    clear nC;go_enter func151,ntmps151;go_wp2_with fail;refine(FN b s k op lg Zk _ HP.o hk hs).mono ?_;rintro e w1 ⟨rfl,ae,aC⟩;rw[HU.o]at aC;rw[HU.o,rW,Zd (by simp)];go_wp2_with fail;refine(Fz b s ⟨#[92,117]⟩ ku op lg _ aC EX hs (by decide) (by decide)).mono ?_;rintro e w2 ⟨rfl,ah,bb⟩;rw[show(Zq #[92,117]).data.toList=[92,117]from rfl,HW.o]at bb;rw[show(Zq #[92,117]).data.toList=[92,117]from rfl,HW.o,fK,Zd (by simp only;omega)];go_wp2_with fail;refine(FN b s kw op lg Zn _ bb Im hs).mono ?_;rintro e w3 ⟨rfl,ap,bk⟩;rw[HV.o]at bk;have SH:rW J (dZ s Zn 4 0 kw)=.tuple #[.int .i32 v,fK J (kv',bv')]:=by
     rw[HV.o,rW,fK];rcases aV.o with h|⟨h,h'⟩
     .rw[Zd (by simp only;omega),Zd (by simp only;omega)]
     .rw[Za (by simp only;omega),Za (by simp only;omega),h']
    rw[SH];clear SH;go_wp2_with fail;go_ret2;exact⟨65536+(u-55296)*1024+(v-56320),by rw[HF.o];rfl,by rw[HF.o];exact λ_=>rfl,(ae.trans ah).trans ap,by rw[HF.o];exact bk⟩
  .have ada:(u/1024 != 54)=Zn:=by rw[bne_iff_ne];exact h54
   have HF:XX (R=(u,ku,-1)):=by
    show _=_;rw[HR.o,lx,HU.o];simp only;rw[Zd (.inr h54)]
   go_enter func151,ntmps151;go_wp2_with fail;refine(FN b s k op lg Zk _ HP.o hk hs).mono ?_;rintro e w1 ⟨rfl,ae,aC⟩;rw[HU.o]at aC;rw[HU.o,rW,Zd (by simp)];go_wp2_with fail;go_ret2;exact⟨u,by rw[HF.o];rfl,by rw[HF.o];exact λ_=>rfl,ae,by rw[HF.o];exact aC⟩
 .have HF:XX (R=(0,ku,bu)):=by
   show _=_;rw[HR.o,lx,HU.o];simp only;rw[Zd (.inl LA)]
  go_enter func151,ntmps151;go_wp2_with fail;refine(FN b s k op lg Zk _ HP.o hk hs).mono ?_;rintro e w1 ⟨rfl,ae,aC⟩;rw[HU.o]at aC;rw[HU.o,rW,Za (by simp only;omega),aG];go_wp2_with fail;go_ret2;exact⟨0,by rw[HF.o,fK,Za (by simp only;omega)];rfl,by rw[HF.o];exact λh=>Zj h (by simp only;omega),ae,by rw[HF.o];exact aC⟩
def UI:Zb Zc:=[34,92,47,98,102,110,114,116]
theorem aiy:∀c:Fin 256,oM (c.val:O)<0->Lib.indexByte UI ((c.val:O).toNat.toUInt8)=-1:=by decide
theorem aiA(s:Zg)(k:Ze):oM (pk s k)=oM (gb s k):=by
 rcases Cy (s:=s) (k:=k)with⟨h,_⟩|⟨h1,h2⟩
 .rw[h]
 .rw[h1,h2];rfl
theorem aix(c:O):(c=34\/c=92\/c=47\/c=98\/c=102\/c=110\/c=114\/c=116)\/oM c=-1:=by
 unfold oM;repeat' split
 all_goals first|(left;omega)|(right;rfl)
def Pj(J:Addr)(r:Zb Zc×Ze×O)(e:Ending):Prop:=∃X,e=.returned (.tuple #[.int .i32 X,fK J r.2])/\(r.2.2<0->Zo X=bv r.1/\-2147483648<=X/\X<=2147483647)
theorem aiu{n:O}(h0:0<=n)(h1:n<1114112)(h2:n<55296\/57343<n):Zo n=bv (jl n):=by
 rcases(show n<=127\/(128<=n/\n<=2047)\/(2048<=n/\n<=65535)\/65536<=n from by omega)with h|h|h|h
 .rw[Zo,Lib.encodeRuneZ_one h0 h,jl,ud,Zd (by omega)];simp only[bv,Zx,Zy];rw[mm (by omega) (by omega)]
 .rw[Zo,Lib.encodeRuneZ_two h.1 h.2,jl,ud,Za (by omega),Zd (by omega)];simp only[bv,Zx,Zy];rw[mm (by omega) (by omega),mm (by omega) (by omega)]
 .rw[Zo,Lib.encodeRuneZ_three (by omega),jl,ud,Za (by omega),Za (by omega),Zd (by omega)];simp only[bv,Zx,Zy];rw[mm (by omega) (by omega),mm (by omega) (by omega),mm (by omega) (by omega)]
 .rw[Zo,Lib.encodeRuneZ_four h (by omega),jl,ud,Za (by omega),Za (by omega),Za (by omega)];simp only[bv,Zx,Zy];rw[mm (by omega) (by omega),mm (by omega) (by omega),mm (by omega) (by omega),mm (by omega) (by omega)]
theorem xc{c:O}(h:gb s k=c)(hc:c≠117)(h0:0<=oM c):cO s k=([ZA (oM c).toNat],k+1,-1):=by
 rw[cO,h,Za hc,Zd h0]
theorem xP{a c:O}{v:Value}(h:a=c):Ending.returned (.tuple #[.int .i32 a,v])=.returned (.tuple #[.int .i32 c,v]):=by rw[h]
theorem xY(u:Zc):wrap32 (u.toNat:O)=(u.toNat:O):=by have:=u.toNat_lt;unfold wrap32;omega
theorem T1(s:Zg)(c:O)(i:O)(w:Zh)(hi:Lib.indexByte s.data.toList (c.toNat.toUInt8)=i):
 Zi prog 120 #[.string s,.int .u8 c] w λe w'=>e=.returned (.int .i64 i)/\w=w':=by
 refine(Tryz.strings_IndexByte s c w).mono ?_;rintro e w' ⟨rfl,rfl⟩;rw[hi];exact⟨rfl,rfl⟩
theorem wl(s:Zg)(c:O)(u:Zc)(i:O)(w:Zh)(hu:c=(u.toNat:O))(hi:Lib.indexByte s.data.toList u=i):
 Zi prog 120 #[.string s,.int .u8 c] w λe w'=>e=.returned (.int .i64 i)/\w=w':=by
 subst hu;exact T1 s _ i w (by rw[show((u.toNat:O)).toNat.toUInt8=u by simp];exact hi)
theorem ag9(b:Ze)(s:Zg)(k:Ze)(op:O)(lg:Zm)(w:Zh)(hp:PS w b s k op lg J)(hk:k<=s.size)(hs:s.size<=1000):
 Zi prog 100 #[.pointer (Zf ⟨b,0,Zl⟩)] w λe w'=>XX (Pj J (cO s k) e)/\ab b w w'/\PS w' b s (cO s k).2.1 op lg J:=by
 have HP:XX (PS w b s k op lg J):=hp;have bF:=wm s k;obtain⟨g0,g1,g2,g3,hf⟩:=iq hp.1;obtain⟨R,hR⟩:∃R,R=cO s k:=⟨_,rfl⟩
 have HR:XX (R=cO s k):=hR;rw[<-hR];clear hp hR g0 g2 g3;by_cases hu:pk s k=117
 .have RQ:gb s k=117:=(iT (by omega)).1 hu;have rG:k<s.size:=cC (by omega);have HH:XX _:=Md s (k+1);have HG:XX _:=λh=>@GR s (k+1) h
  have HF:XX (R.2=(lx s (k+1)).2/\((lx s (k+1)).2.2<0->R.1=jl (lx s (k+1)).1/\0<=(lx s (k+1)).1/\(lx s (k+1)).1<1114112/\((lx s (k+1)).1<55296\/57343<(lx s (k+1)).1))):=by
   show _/\_;obtain⟨h1,h2,h3⟩:=Md s (k+1);rw[HR.o,cO,Zd RQ];simp only;rw[h1];by_cases hb:(gj s (k+1) (-1)).2.2<0
   .have hg:=@GR s (k+1) hb;rw[Zd hb,h2 hb];exact⟨rfl,λ_=>⟨rfl,hg.1,hg.2.1,hg.2.2.2.2.2⟩⟩
   .rw[Za hb];exact⟨rfl,λh=>Zj h hb⟩
  have HUU:XX (pk s k=117):=hu;clear hu RQ HH HG;go_enter func100,ntmps100;go_wp2_with fail;refine(pu b s k op lg 117 _ HP.o hk hs HUU.o).mono ?_;rintro e w1 ⟨rfl,ae,aC⟩;go_wp2_with fail;refine(ad2 b s (k+1) op lg _ aC rG hs).mono ?_;rintro e w2 ⟨X,rfl,hX,ah,bb⟩;go_wp2_with fail;go_ret2;refine⟨⟨X,?_,?_⟩,ae.trans ah,by rw[HF.o.1];exact bb⟩
  .rw[HF.o.1];rfl
  .rw[HF.o.1];intro h;obtain⟨q1,q2,q3,q4⟩:=HF.o.2 h;rw[q1,hX.o h];exact⟨aiu q2 q3 q4,by omega,by omega⟩
 .have HU:XX (pk s k≠117):=hu;have HUG:XX (gb s k≠117):=λh=>hu ((iT (by omega)).2 h)
  clear hu;obtain⟨c,hc⟩:∃c,c=pk s k:=⟨_,rfl⟩
  have HC:XX (pk s k=c):=hc.symm;rcases aix c with h|h
  .have uR:XX (gb s k=c):=(iT (by omega)).1 hc.symm;have rG:k<s.size:=cC (by rw[uR.o];omega);clear hc;rcases h with rfl|rfl|rfl|rfl|rfl|rfl|rfl|rfl
   .have HF:XX (R=([34],k+1,-1)):=HR.o.trans (xc uR.o (by decide) (by decide));go_enter func100,ntmps100;go_wp2_with fail;refine(iW b s k op lg 117 _ HP.o hk hs HU.o).mono ?_;rintro e w1 ⟨rfl,ae,aC⟩;obtain⟨y0,y1,y2,y3,yf⟩:=iq aC.1;go_wp2_with fail;refine(eT b s k op lg _ aC hk hs).mono ?_;rintro e w2 ⟨rfl,n2,rfl⟩;rw[HC.o];go_wp2_with fail;refine(wl ⟨#[34,92,47,98,102,110,114,116]⟩ 34 34 0 _ rfl (by decide)).mono ?_;rintro e w3 ⟨rfl,rfl⟩;go_wp2_with fail;go_ret2;refine⟨⟨34,by rw[HF.o];exact xP ((xY _).trans rfl),by rw[HF.o];exact λ_=>⟨rfl,by omega,by omega⟩⟩,(ae.drewN _).setCell _ _,by rw[HF.o];exact(aC.drewN _).at (k+1) (by omega)⟩
   .have HF:XX (R=([92],k+1,-1)):=HR.o.trans (xc uR.o (by decide) (by decide));go_enter func100,ntmps100;go_wp2_with fail;refine(iW b s k op lg 117 _ HP.o hk hs HU.o).mono ?_;rintro e w1 ⟨rfl,ae,aC⟩;obtain⟨y0,y1,y2,y3,yf⟩:=iq aC.1;go_wp2_with fail;refine(eT b s k op lg _ aC hk hs).mono ?_;rintro e w2 ⟨rfl,n2,rfl⟩;rw[HC.o];go_wp2_with fail;refine(wl ⟨#[34,92,47,98,102,110,114,116]⟩ 92 92 1 _ rfl (by decide)).mono ?_;rintro e w3 ⟨rfl,rfl⟩;go_wp2_with fail;go_ret2;refine⟨⟨92,by rw[HF.o];exact xP ((xY _).trans rfl),by rw[HF.o];exact λ_=>⟨rfl,by omega,by omega⟩⟩,(ae.drewN _).setCell _ _,by rw[HF.o];exact(aC.drewN _).at (k+1) (by omega)⟩
   .have HF:XX (R=([47],k+1,-1)):=HR.o.trans (xc uR.o (by decide) (by decide));go_enter func100,ntmps100;go_wp2_with fail;refine(iW b s k op lg 117 _ HP.o hk hs HU.o).mono ?_;rintro e w1 ⟨rfl,ae,aC⟩;obtain⟨y0,y1,y2,y3,yf⟩:=iq aC.1;go_wp2_with fail;refine(eT b s k op lg _ aC hk hs).mono ?_;rintro e w2 ⟨rfl,n2,rfl⟩;rw[HC.o];go_wp2_with fail;refine(wl ⟨#[34,92,47,98,102,110,114,116]⟩ 47 47 2 _ rfl (by decide)).mono ?_;rintro e w3 ⟨rfl,rfl⟩;go_wp2_with fail;go_ret2;refine⟨⟨47,by rw[HF.o];exact xP ((xY _).trans rfl),by rw[HF.o];exact λ_=>⟨rfl,by omega,by omega⟩⟩,(ae.drewN _).setCell _ _,by rw[HF.o];exact(aC.drewN _).at (k+1) (by omega)⟩
   .have HF:XX (R=([8],k+1,-1)):=HR.o.trans (xc uR.o (by decide) (by decide));go_enter func100,ntmps100;go_wp2_with fail;refine(iW b s k op lg 117 _ HP.o hk hs HU.o).mono ?_;rintro e w1 ⟨rfl,ae,aC⟩;obtain⟨y0,y1,y2,y3,yf⟩:=iq aC.1;go_wp2_with fail;refine(eT b s k op lg _ aC hk hs).mono ?_;rintro e w2 ⟨rfl,n2,rfl⟩;rw[HC.o];go_wp2_with fail;refine(wl ⟨#[34,92,47,98,102,110,114,116]⟩ 98 98 3 _ rfl (by decide)).mono ?_;rintro e w3 ⟨rfl,rfl⟩;go_wp2_with fail;go_ret2;refine⟨⟨8,by rw[HF.o];exact xP ((xY _).trans rfl),by rw[HF.o];exact λ_=>⟨rfl,by omega,by omega⟩⟩,(ae.drewN _).setCell _ _,by rw[HF.o];exact(aC.drewN _).at (k+1) (by omega)⟩
   .have HF:XX (R=([12],k+1,-1)):=HR.o.trans (xc uR.o (by decide) (by decide));go_enter func100,ntmps100;go_wp2_with fail;refine(iW b s k op lg 117 _ HP.o hk hs HU.o).mono ?_;rintro e w1 ⟨rfl,ae,aC⟩;obtain⟨y0,y1,y2,y3,yf⟩:=iq aC.1;go_wp2_with fail;refine(eT b s k op lg _ aC hk hs).mono ?_;rintro e w2 ⟨rfl,n2,rfl⟩;rw[HC.o];go_wp2_with fail;refine(wl ⟨#[34,92,47,98,102,110,114,116]⟩ 102 102 4 _ rfl (by decide)).mono ?_;rintro e w3 ⟨rfl,rfl⟩;go_wp2_with fail;go_ret2;refine⟨⟨12,by rw[HF.o];exact xP ((xY _).trans rfl),by rw[HF.o];exact λ_=>⟨rfl,by omega,by omega⟩⟩,(ae.drewN _).setCell _ _,by rw[HF.o];exact(aC.drewN _).at (k+1) (by omega)⟩
   .have HF:XX (R=([10],k+1,-1)):=HR.o.trans (xc uR.o (by decide) (by decide));go_enter func100,ntmps100;go_wp2_with fail;refine(iW b s k op lg 117 _ HP.o hk hs HU.o).mono ?_;rintro e w1 ⟨rfl,ae,aC⟩;obtain⟨y0,y1,y2,y3,yf⟩:=iq aC.1;go_wp2_with fail;refine(eT b s k op lg _ aC hk hs).mono ?_;rintro e w2 ⟨rfl,n2,rfl⟩;rw[HC.o];go_wp2_with fail;refine(wl ⟨#[34,92,47,98,102,110,114,116]⟩ 110 110 5 _ rfl (by decide)).mono ?_;rintro e w3 ⟨rfl,rfl⟩;go_wp2_with fail;go_ret2;refine⟨⟨10,by rw[HF.o];exact xP ((xY _).trans rfl),by rw[HF.o];exact λ_=>⟨rfl,by omega,by omega⟩⟩,(ae.drewN _).setCell _ _,by rw[HF.o];exact(aC.drewN _).at (k+1) (by omega)⟩
   .have HF:XX (R=([13],k+1,-1)):=HR.o.trans (xc uR.o (by decide) (by decide));go_enter func100,ntmps100;go_wp2_with fail;refine(iW b s k op lg 117 _ HP.o hk hs HU.o).mono ?_;rintro e w1 ⟨rfl,ae,aC⟩;obtain⟨y0,y1,y2,y3,yf⟩:=iq aC.1;go_wp2_with fail;refine(eT b s k op lg _ aC hk hs).mono ?_;rintro e w2 ⟨rfl,n2,rfl⟩;rw[HC.o];go_wp2_with fail;refine(wl ⟨#[34,92,47,98,102,110,114,116]⟩ 114 114 6 _ rfl (by decide)).mono ?_;rintro e w3 ⟨rfl,rfl⟩;go_wp2_with fail;go_ret2;refine⟨⟨13,by rw[HF.o];exact xP ((xY _).trans rfl),by rw[HF.o];exact λ_=>⟨rfl,by omega,by omega⟩⟩,(ae.drewN _).setCell _ _,by rw[HF.o];exact(aC.drewN _).at (k+1) (by omega)⟩
   .have HF:XX (R=([9],k+1,-1)):=HR.o.trans (xc uR.o (by decide) (by decide));go_enter func100,ntmps100;go_wp2_with fail;refine(iW b s k op lg 117 _ HP.o hk hs HU.o).mono ?_;rintro e w1 ⟨rfl,ae,aC⟩;obtain⟨y0,y1,y2,y3,yf⟩:=iq aC.1;go_wp2_with fail;refine(eT b s k op lg _ aC hk hs).mono ?_;rintro e w2 ⟨rfl,n2,rfl⟩;rw[HC.o];go_wp2_with fail;refine(wl ⟨#[34,92,47,98,102,110,114,116]⟩ 116 116 7 _ rfl (by decide)).mono ?_;rintro e w3 ⟨rfl,rfl⟩;go_wp2_with fail;go_ret2;refine⟨⟨9,by rw[HF.o];exact xP ((xY _).trans rfl),by rw[HF.o];exact λ_=>⟨rfl,by omega,by omega⟩⟩,(ae.drewN _).setCell _ _,by rw[HF.o];exact(aC.drewN _).at (k+1) (by omega)⟩
  .have HX:XX (Lib.indexByte UI (c.toNat.toUInt8)=-1):=by
    show _=_;have:=aiy ⟨c.toNat,by omega⟩;simp only[show((c.toNat:Ze):O)=c from by omega]at this;exact this (by omega)
   have HF:XX (R=([],k,(k:O))):=by
    show _=_;rw[HR.o,cO,Za HUG.o,Za (by rw[<-aiA,HC.o,h];omega)]
   clear hc h;go_enter func100,ntmps100;go_wp2_with fail;refine(iW b s k op lg 117 _ HP.o hk hs HU.o).mono ?_;rintro e w1 ⟨rfl,ae,aC⟩;go_wp2_with fail;refine(eT b s k op lg _ aC hk hs).mono ?_;rintro e w2 ⟨rfl,n2,rfl⟩;rw[HC.o];go_wp2_with fail;refine(T1 ⟨#[34,92,47,98,102,110,114,116]⟩ c (-1) _ HX.o).mono ?_;rintro e w3 ⟨rfl,rfl⟩;go_wp2_with fail;refine(pC b s k op lg _ (aC.drewN _)).mono ?_;rintro e w4 ⟨rfl,n4,rfl⟩;go_wp2_with fail;go_ret2;refine⟨⟨0,?_,by rw[HF.o];exact λh=>Zj h (by simp only;omega)⟩,ae.drewN _,by rw[HF.o];exact aC.drewN _⟩;rw[HF.o,fK,Za (by simp only;omega)];rfl
def jj(s:Zg)(k:Ze):Zb Zc×Ze×O:=
 if gb s k<32 then([],k,k)
 else if gb s k=92 then cO s (k+1)
 else if(iU s k).2<0 then((s.extract k (iU s k).1).data.toList,iU s k)else([],iU s k)
theorem agR(t:Zg)(h:t.size=1):t.data.toList=[ZA (((t.get! 0).toNat:O)).toNat]:=by
 obtain⟨⟨l⟩⟩:=t
 match l,h with
 |[a],_=>show [a]=[ZA ((a.toNat:O)).toNat];simp
theorem Qy(h:k<s.size):(s.extract k (k+1)).data.toList=[ZA (gb s k).toNat]:=by
 have aH:(s.extract k (k+1)).size=1:=by rw[ZH];omega
 have hg:=Bq (s:=s) (k:=k) (n:=1) (i:=0) (by omega) (by omega);simp only[Ze.add_zero]at hg;rw[<-hg];exact agR _ aH
theorem N1(s:Zg)(f k:Ze)(acc:Zb Zc):dR s (f+1) k acc =
 if gb s k=34 then(acc,k+1,-1)else if(jj s k).2.2<0 then dR s f (jj s k).2.1 (acc++(jj s k).1)else([],(jj s k).2):=by
 rw[dR];split
 .rfl
 .rename_i gV
  rw[jj];by_cases iA:gb s k<32
  .rw[Zd iA,Zd iA,Za (by simp only;omega)]
  .rw[Za iA,Za iA];by_cases h127:127<gb s k
   .rw[Zd h127,Za (show ¬gb s k=92 by omega),T4 h127];by_cases hm:(et s k (-1)).2<0
    .rw[Zd hm,Zd hm,Zd (by exact hm)]
    .rw[Za hm,Za hm,Za (by exact hm)]
   .rw[Za h127];by_cases h92:gb s k=92
    .rw[Zd h92,Zd h92]
    .rw[Za h92,Za h92,T5 (by omega) (by omega),Zd (show((k+1,(-1:O)):Ze×O).2<0 by show(-1:O)<0;omega),Zd (show(((s.extract k (k+1)).data.toList,k+1,(-1:O)):Zb Zc×Ze×O).2.2<0 by show(-1:O)<0;omega)];show _=dR s f (k+1) (acc++(s.extract k (k+1)).data.toList);rw[Qy (s:=s) (k:=k) (cC (by omega))]
theorem abH(t:Zg):(Lib.decodeGo t).1<=2000000000:=by
 rw[Lib.decodeGo];split
 .decide
 .rw[Lib.decode_at,Lib.decodeN];have:=(t.get! 0).toNat_lt
  repeat' split
  all_goals (simp only;omega)
theorem ahz(b:Ze)(s:Zg)(k:Ze)(op:O)(lg:Zm)(w:Zh)(hp:PS w b s k op lg J)(hT:kE w)(fD:15<=b)(hk:k<=s.size)(hs:s.size<=1000):
 Zi prog 65 #[.pointer (Zf ⟨b,0,Zl⟩)] w λe w'=>XX (Pj J (jj s k) e)/\ab b w w'/\PS w' b s (jj s k).2.1 op lg J:=by
 have HP:XX (PS w b s k op lg J):=hp;have HT:XX (kE w):=hT;have bF:=wm s k;obtain⟨R,hR⟩:∃R,R=jj s k:=⟨_,rfl⟩
 have HR:XX (R=jj s k):=hR;rw[<-hR];obtain⟨c,hc⟩:∃c,c=pk s k:=⟨_,rfl⟩
 have HC:XX (pk s k=c):=hc.symm;rw[<-hc]at bF;clear hp hT hR hc;by_cases iA:c<32
 .have HF:XX (R=([],k,(k:O))):=by
   show _=_;rw[HR.o,jj,Zd];rcases Cy (s:=s) (k:=k)with⟨h,_⟩|⟨h1,h2⟩
   .rw[h,HC.o];exact iA
   .omega
  go_enter func65,ntmps65;go_wp2_with fail;refine(eT b s k op lg _ HP.o hk hs).mono ?_;rintro e w1 ⟨rfl,n1,rfl⟩;rw[HC.o];go_wp2_with fail;refine(pC b s k op lg _ (HP.o.drewN _)).mono ?_;rintro e w2 ⟨rfl,n2,rfl⟩;go_wp2_with fail;go_ret2;refine⟨⟨0,?_,by rw[HF.o];exact λh=>Zj h (by simp only;omega)⟩,(ab.refl _ _).drewN _,by rw[HF.o];exact HP.o.drewN _⟩;rw[HF.o,fK,Za (by simp only;omega)];rfl
 .have HG:XX (gb s k=c):=(iT (by omega)).1 HC.o;have rG:k<s.size:=cC (by rw[HG.o];omega);by_cases h92:c=92
  .subst h92;have HF:XX (R=cO s (k+1)):=by
    show _=_;rw[HR.o,jj,Za (by rw[HG.o];omega),Zd HG.o]
   go_enter func65,ntmps65;go_wp2_with fail;refine(eT b s k op lg _ HP.o hk hs).mono ?_;rintro e w1 ⟨rfl,n1,rfl⟩;rw[HC.o];go_wp2_with fail;refine(pu b s k op lg 92 _ (HP.o.drewN _) hk hs HC.o).mono ?_;rintro e w2 ⟨rfl,ah,bb⟩;go_wp2_with fail;refine(ag9 b s (k+1) op lg _ bb rG hs).mono ?_;rintro e w3 ⟨⟨X,rfl,hX⟩,ap,bk⟩;have HX:XX _:=hX;clear hX;go_wp2_with fail;go_ret2;refine⟨⟨X,by rw[HF.o];rfl,by rw[HF.o];exact HX.o⟩,(((ab.refl _ _).drewN _).trans ah).trans ap,by rw[HF.o];exact bk⟩
  .have HF:XX (R=if(iU s k).2<0 then((s.extract k (iU s k).1).data.toList,iU s k)else([],iU s k)):=by
    show _=_;rw[HR.o,jj,Za (by rw[HG.o];omega),Za (by rw[HG.o];exact h92)]
   have HN:XX (pk s k≠92):=by show _≠_;rw[HC.o];exact h92
   go_enter func65,ntmps65;go_wp2_with fail;refine(eT b s k op lg _ HP.o hk hs).mono ?_;rintro e w1 ⟨rfl,n1,rfl⟩;rw[HC.o];go_wp2_with fail;refine(iW b s k op lg 92 _ (HP.o.drewN _) hk hs HN.o).mono ?_;rintro e w2 ⟨rfl,ah,bb⟩;go_wp2_with fail;refine(ahk b s k op lg _ bb (I2 (w:=w.drewN _) HT.o ah fD) fD rG hs).mono ?_;rintro e w3 ⟨rfl,ap,bk⟩;have hE:∃X,Cz J s k (iU s k)=.tuple #[.int .i32 X,fK J (iU s k)]/\((iU s k).2<0->Zo X=bv (s.extract k (iU s k).1).data.toList/\-2147483648<=X/\X<=2147483647):=by
    rw[Cz,fK];by_cases em:(iU s k).2<0
    .rw[Zd em,Zd em];obtain⟨n,_,_,e,_,er⟩:=T3 (by rw[HG.o];omega) em;refine⟨_,rfl,λ_=>⟨?_,?_,?_⟩⟩
     .rw[e];exact er
     .omega
     .have:=abH (s.extract k (iU s k).1);omega
    .rw[Za em,Za em];exact⟨0,rfl,λh=>Zj h em⟩
   obtain⟨X,QS,He⟩:=hE;rw[QS];have JH:XX _:=He;clear QS He;go_wp2_with fail;go_ret2;refine⟨⟨X,?_,?_⟩,(((ab.refl _ _).drewN _).trans ah).trans ap,?_⟩
   .rw[HF.o];split <;> rfl
   .rw[HF.o];split
    .exact λ_=>JH.o (by assumption)
    .exact λh=>Zj h (by assumption)
   .rw[HF.o];split <;> exact bk
theorem ahA(h:(jj s k).2.2<0):k<(jj s k).2.1/\(jj s k).2.1<=s.size/\(jj s k).1.length<=4*((jj s k).2.1-k):=by
 rw[jj]at h⊢;by_cases iA:gb s k<32
 .rw[Zd iA]at h;simp only at h;omega
 .rw[Za iA]at h⊢;by_cases h92:gb s k=92
  .rw[Zd h92]at h⊢;have:=GT (s:=s) (k:=k+1) h;omega
  .rw[Za h92]at h⊢;by_cases hp:(iU s k).2<0
   .rw[Zd hp];obtain⟨n,h1,h2,e,h3,_⟩:=T3 (by omega) hp;rw[e];simp only;have:(s.extract k (k+n)).data.toList.length=n:=by
     have:(s.extract k (k+n)).size=n:=by rw[ZH];omega
     exact this
    omega
   .rw[Za hp]at h;exact Zj h hp
theorem PS.grown{row:Option Ze}(h:PS w b s k op lg J)(hg:w.grownBy w' row)(hr:∀k,row=Zf k->N<=k)(hb:b<N)(hJ:5<N):PS w' b s k op lg J:=
 ⟨(hg.block b (al h.1) (by intro e;have:=hr b e.symm;omega)).trans h.1,(hg.block _ (al h.2.1) (by intro e;have:=hr _ e.symm;omega)).trans h.2.1,h.2.2⟩
theorem PS.alloc(h:PS w b s k op lg J)(o:Obj):PS (w.alloc o) b s k op lg J:=
 ⟨(ZG _ _ _ (al h.1)).trans h.1,(ZG _ _ _ (al h.2.1)).trans h.2.1,h.2.2⟩
theorem UV(h:kE w)(hb:bh N b w w')(fD:15<=b)(hN:15<=N):kE w':=
 ⟨λc hc=>lm (h.1 c hc) (hb.block _ (by omega) (by omega)),
  λi hi=>⟨lm (h.2 i hi).1 (hb.block _ (by omega) (by omega)),lm (h.2 i hi).2 (hb.block _ (by omega) (by omega))⟩⟩
theorem FA(b:Ze)(s:Zg)(k:Ze)(op:O)(lg:Zm)(w:Zh)(hp:PS w b s k op lg J)(hT:kE w)(fD:15<=b)(hs:s.size<=1000)(hq:gb s k=34):
 Zi prog 35 #[.pointer (Zf ⟨b,0,Zl⟩)] w λe w'=>e=.returned (.tuple #[.string ⟨(aw s k).1.toArray⟩,fK J (aw s k).2])/\ab b w w'/\PS w' b s (aw s k).2.1 op lg J:=by
 have hk:k<s.size:=cC (by omega);have bT:=al hp.1;have HP:XX (PS w b s k op lg J):=hp;have wR:XX (kE w):=hT;obtain⟨g0,g1,g2,g3,hf⟩:=iq hp.1;obtain⟨N,hN⟩:∃N,N=w.heap.size:=⟨_,rfl⟩
 obtain⟨R,hR⟩:∃R,R=aw s k:=⟨_,rfl⟩
 have HR:XX (dR s (s.size+1) (k+1) []=R):=by show _=_;rw[hR,aw,Zd hq]
 rw[<-hR];have HN:XX (N=w.heap.size):=hN;have En:N<=w.heap.size:=by omega
 have ui:b<N:=by omega
 clear hR hq hN hp hT g0 g2 g3;go_enter func35,ntmps35;go_wp2_with fail;go_loopg [4] (s.size+1) (λg out wr=>bh N b w wr/\N<=wr.heap.size/\∃j acc,j<=s.size/\s.size<j+g/\dR s g j acc=R/\PS wr b s j op lg J/\OB wr N out acc/\acc.length<=4*j)
 case atStart=>exact⟨(bh.refl _ _ _).setCell _ _,by simp[Zh.setCell];omega,k+1,[],by omega,by omega,HR.o,HP.o.at (k+1) (by omega),OB.nil _ _,by simp⟩
 case round=>
  obtain⟨ba,aH,j,acc,hj,jM,hT,nz,am,az⟩:=hrel;obtain⟨f,rfl⟩:∃f,gk=f+1:=⟨gk-1,by omega⟩
  have aX:XX (PS wr b s j op lg J):=nz;have HT:XX (dR s (f+1) j acc=R):=hT;clear nz hT g1 hf;by_cases gV:pk s j=34
  .have hg:gb s j=34:=(iT (by omega)).1 gV;have HF:XX (R=(acc,j+1,-1)):=by show _=_;rw[<-HT.o,N1,Zd hg]
   have HC:XX (pk s j=34):=gV;clear gV hg;go_wp2_with fail;refine(pu b s j op lg 34 _ aX.o hj hs HC.o).mono ?_;rintro e w2 ⟨rfl,ah,bb⟩;have oU:(convert 49 9 u4).run prog w2=.ok (.string ⟨acc.toArray⟩) w2:=ua (am.kept ah ui);go_wp2_with fail;go_ret2;have EA:bh w.heap.size b w wr:=HN.o▸ba;exact⟨by rw[HF.o];rfl,EA.but.trans ah,by rw[HF.o];exact bb⟩
  .have HC:XX (pk s j≠34):=gV;have HG:XX (gb s j≠34):=λh=>gV ((iT (by omega)).2 h)
   have DF:XX (kE wr):=UV wR.o ba fD (by omega);clear gV;go_wp2_with fail;refine(iW b s j op lg 34 _ aX.o hj hs HC.o).mono ?_;rintro e w2 ⟨rfl,ah,bb⟩;go_wp2_with fail;refine(ahz b s j op lg _ bb (I2 DF.o ah fD) fD hj hs).mono ?_;rintro e w3 ⟨⟨X,rfl,hX⟩,ap,bk⟩;have HX:XX _:=hX;have dr:bh N b w w3:=ba.trans (bh.of_but (ah.trans ap) aH);have eC:N<=w3.heap.size:=Ze.le_trans aH (ah.trans ap).size;have bz:OB w3 N u4 acc:=am.kept (ah.trans ap) ui;clear hX ah ap bb am;by_cases hgood:(jj s j).2.2<0
   .have hpg:=ahA hgood;have HF:XX (dR s f (jj s j).2.1 (acc++(jj s j).1)=R):=by show _=_;rw[<-HT.o,N1,Za HG.o,Zd hgood]
    have AW:XX (Zo X=bv (jj s j).1/\-2147483648<=X/\X<=2147483647):=HX.o hgood;rw[fK,Zd hgood];clear HX hgood;go_wp2_with fail;refine(Tryz.utf8_AppendRune_plain N u4 acc.length (bv acc) X AW.o.2.1 AW.o.2.2 _ bz (by omega) eC).mono ?_;rintro e w4 ⟨v',rfl,aN,o,an⟩;have aeQ:OB w4 N v' (acc++(jj s j).1):=by
     rw[AW.o.1,<-tZ,D6]at aN;show Zh.ownsRow _ _ _ _ _ _ _;rw[Zp];exact aN
    have Eh:bh N b w w4:=(dr.alloc eC o).trans (bh.of_grown an (by simp;omega) bz.below);have dk:N<=w4.heap.size:=by have:=an.size;simp at this;omega
    have bg:PS w4 b s (jj s j).2.1 op lg J:=(bk.alloc o).grown an bz.below ui (by omega);clear an aN;go_wp2_with fail;go_roundg f
    case measure=>omega
    case rel=>exact⟨Eh,dk,(jj s j).2.1,acc++(jj s j).1,hpg.2.1,by omega,HF.o,bg,aeQ,by rw[Zp];omega⟩
   .have HF:XX (R=([],(jj s j).2)):=by show _=_;rw[<-HT.o,N1,Za HG.o,Za hgood]
    rw[fK,Za hgood,aG];go_wp2_with fail;go_ret2;have EA:bh w.heap.size b w w3:=HN.o▸dr;refine⟨?_,EA.but,by rw[HF.o];exact bk⟩;rw[HF.o,fK,Za (show ¬(([],(jj s j).2):Zb Zc×Ze×O).2.2<0 by show ¬(jj s j).2.2<0;omega)];rfl
def jO:Zb Zc->O->O
 |[],p=>p
 |c::cs,p=>jO cs (min (p*10+((c.toNat:O)-48)) 1099511627776)
theorem No(c:Zc)(l:Zb Zc):Zu (c::l) [c]=l/\Zr (c::l) [c]=Zn:=by
 simp[Zu,Zr,ZM]
theorem IOz(c:Zc)(l:Zb Zc)(h:∀x,l.head?=Zf x->x≠c):Zu l [c]=l/\Zr l [c]=Zk:=by
 have h2:Zr l [c]=Zk:=by
  cases l with
  |nil=>rfl
  |cons a l=>
   have:=h a rfl;simp only[Zr,ZM,Zm.and_true,beq_eq_false_iff_ne];exact λe=>this e.symm
 exact⟨by rw[Zu,h2];rfl,h2⟩
theorem Qd{t:Zg}(h:kZ t)(hc:c.toNat<48):∀x,t.data.toList.head?=Zf x->x≠c:=by
 intro x hx e;have hm:x∈t.data.toList:=Zb.mem_of_mem_head? (by rw[hx];rfl);have:=h.mem x hm;rw[e]at this;omega
def qQ(sg:Ze)(t:Zg):Zg:=if sg=0 then t else if sg=1 then⟨(45::t.data.toList).toArray⟩else⟨(43::t.data.toList).toArray⟩
theorem ahC(sg:Ze)(t:Zg)(h:kZ t)(w:Zh):Zi prog 93 #[.string (qQ sg t),.string ⟨#[45]⟩] w λe w'=>e=.returned (.tuple #[.string (if sg=0\/sg=1 then t else qQ sg t),.bool (decide (sg=1))])/\w=w':=by
 refine(Tryz.strings_CutPrefix _ _ w).mono ?_;rintro e w' ⟨rfl,rfl⟩;refine⟨?_,rfl⟩;rw[show(Zq #[45]).data.toList=[45]from rfl];by_cases h0:sg=0
 .obtain⟨e1,e2⟩:=IOz 45 t.data.toList (Qd h (by decide));rw[qQ,Zd h0,Zd (.inl h0),e1,e2];simp[h0]
 .by_cases h1:sg=1
  .obtain⟨e1,e2⟩:=No 45 t.data.toList;rw[qQ,Za h0,Zd h1,Zd (.inr h1)];simp only[e1,e2];simp[h1]
  .obtain⟨e1,e2⟩:=IOz 45 (43::t.data.toList) (by intro x hx;simp at hx;rw[<-hx];decide);rw[qQ,Za h0,Za h1,Za (by omega)];simp only[e1,e2];simp[h1]
theorem ahD(sg:Ze)(t:Zg)(h:kZ t)(w:Zh):Zi prog 133 #[.string (if sg=0\/sg=1 then t else qQ sg t),.string ⟨#[43]⟩] w λe w'=>e=.returned (.string t)/\w=w':=by
 refine(Tryz.strings_TrimPrefix _ _ w).mono ?_;rintro e w' ⟨rfl,rfl⟩;refine⟨?_,rfl⟩;rw[show(Zq #[43]).data.toList=[43]from rfl];by_cases h0:sg=0\/sg=1
 .obtain⟨e1,e2⟩:=IOz 43 t.data.toList (Qd h (by decide));rw[Zd h0,e1]
 .obtain⟨e1,e2⟩:=No 43 t.data.toList;rw[Za h0,qQ,Za (by omega),Za (by omega)];simp only[e1]
theorem Nm:∀(l:Zb Zc) (p:O),0<=p->p<=1099511627776->(∀c∈l,48<=c.toNat/\c.toNat<=57)->0<=jO l p/\jO l p<=1099511627776
 |[],p,h0,h1,_=>⟨h0,h1⟩
 |c::cs,p,h0,h1,hd=>by
  have hc:=hd c (by simp);rw[jO];exact Nm cs _ (by omega) (by omega) (λx hx=>hd x (by simp[hx]))
theorem Ua(sg:Ze)(t:Zg)(w:Zh)(h:kZ t)(ht:t.size<=1000):
 Zi prog 111 #[.string (qQ sg t)] w λe w'=>e=.returned (.int .i64 (if sg=1 then-jO t.data.toList 0 else jO t.data.toList 0))/\w=w':=by
 have HD:XX (kZ t):=h;have E6:=Nm t.data.toList 0 (by omega) (by omega) h.mem;obtain⟨R,hR⟩:∃R,R=jO t.data.toList 0:=⟨_,rfl⟩
 have HR:XX (jO t.data.toList 0=R):=hR.symm;rw[<-hR]at E6⊢;clear h hR;go_enter func111,ntmps111;go_wp2_with fail;refine(ahC sg t HD.o _).mono ?_;rintro e w1 ⟨rfl,rfl⟩;obtain⟨t1,gq⟩:∃t1,t1=if sg=0\/sg=1 then t else qQ sg t:=⟨_,rfl⟩
 obtain⟨ng,zG⟩:∃ng,ng=decide (sg=1):=⟨_,rfl⟩
 have gv:XX (t1=if sg=0\/sg=1 then t else qQ sg t):=gq;have AK:XX (ng=decide (sg=1)):=zG;rw[<-gq,<-zG];clear gq zG;go_wp2_with fail;rw[gv.o];refine(ahD sg t HD.o _).mono ?_;rintro e w1 ⟨rfl,rfl⟩;rw[<-gv.o];go_wp2_with fail;go_loopg [16,5] t.size (λg i p wr=>∃(m:Ze) (q:O),w=wr/\m<=t.size/\g=t.size-m/\i=.int .i64 m/\p=.int .i64 q/\0<=q/\q<=1099511627776/\jO (t.data.toList.drop m) q=R)
 case atStart=>exact⟨0,0,rfl,by omega,by omega,rfl,rfl,by omega,by omega,by simpa using HR.o⟩
 case round=>
  obtain⟨m,q,rfl,hm,hg,rfl,rfl,BZ,sZ,hX⟩:=hrel;have HG:XX (gk=t.size-m):=hg;have HX:XX (jO (t.data.toList.drop m) q=R):=hX;clear hg hX;by_cases ai:m<t.size
  .have qH:=HD.o m ai;obtain⟨d1,d2⟩:=qH;have HN:XX (jO (t.data.toList.drop (m+1)) (min (q*10+(((t[m]'ai).toNat:O)-48)) 1099511627776)=R):=by
    show _=_;rw[<-HX.o,D9 t m ai,jO]
   go_wp2;go_roundg (t.size-(m+1))
   case measure=>rw[HG.o];omega
   case rel=>exact⟨m+1,min (q*10+(((t[m]'ai).toNat:O)-48)) 1099511627776,rfl,by omega,rfl,by go_num,rfl,by omega,by omega,HN.o⟩
  .have HN:XX (R=q):=by
    show _=_;rw[<-HX.o,Zb.drop_eq_nil_of_le (by simp;omega),jO]
   cases ng
   .have ay:¬sg=1:=of_decide_eq_false AK.o.symm;go_wp2;go_ret;exact⟨by rw[HN.o];rfl,rfl⟩
   .have ay:sg=1:=of_decide_eq_true AK.o.symm;go_wp2;go_ret;exact⟨by rw[HN.o];rfl,rfl⟩
def cg:Zb Zc->O
 |[]=>0
 |c::cs=>((c.toNat:O)-48)*10^cs.length+cg cs
def ef(l:Zb Zc):Prop:=∀c∈l,48<=c.toNat/\c.toNat<=57
theorem ef.tail{cs:Zb Zc}(h:ef (c::cs)):ef cs:=λx hx=>h x (by simp[hx])
theorem Fx(n:Ze):(1:O)<=10^n:=by
 have:(0:O)<10^n:=O.pow_pos (by omega);omega
theorem xX:∀{l:Zb Zc},ef l->0<=cg l
 |[],_=>by simp[cg]
 |c::cs,h=>by
  have hc:=h c (by simp);have:=xX h.tail;have h2:0<=((c.toNat:O)-48)*10^cs.length:=ZE (by omega) (by have:=Fx cs.length;omega);rw[cg];omega
theorem PK(h:c≠48)(hd:48<=c.toNat):1<=(c.toNat:O)-48:=by
 have:c.toNat≠48:=λe=>h (Zc.toNat.inj (by rw[e];rfl))
 omega
theorem KQ(point:O):∀(l:Zb Zc) (i:Ze) (n:O),(∀c∈l,c=48)->jJ point l i n=Zf n
 |[],i,n,_=>rfl
 |c::cs,i,n,h=>by rw[GY (h c (by simp))];exact KQ point cs _ n (λx hx=>h x (by simp[hx]))
theorem GW(point:O)(zs:Zb Zc)(hz:∀c∈zs,c=48):∀(core:Zb Zc) (i:Ze) (n:O),ef core->core≠[]->core.getLast?≠Zf 48->0<=n->n<=1000000000000000 ->
 jJ point (core++zs) i n=if 0<=point-(i:O)-(core.length:O)+6/\n+cg core*10^(point-(i:O)-(core.length:O)+6).toNat<=1000000000000000 then Zf (n+cg core*10^(point-(i:O)-(core.length:O)+6).toNat)else Zl
 |[],i,n,_,bj,_,_,_=>Zj rfl bj
 |c::cs,i,n,hd,_,hl,h0,h1=>by
  have hc:=hd c (by simp);have SL:=xX hd.tail;obtain⟨e,he⟩:∃e:O,e=point-(i:O)-(((c::cs).length:Ze):O)+6:=⟨_,rfl⟩
  have az:(((c::cs).length:Ze):O)=(cs.length:O)+1:=by simp
  have BX:point-(i:O)+5=e+(cs.length:O):=by rw[he,az];omega
  rw[<-he];have hv:cg (c::cs)*10^e.toNat=((c.toNat:O)-48)*10^(cs.length+e.toNat)+cg cs*10^e.toNat:=by
   rw[cg,ZC,ZD,<-ZK]
  have hvp:0<=cg cs*10^e.toNat:=ZE SL (by have:=Fx e.toNat;omega);have ihe:∀i':Ze,i'=i+1->point-(i':O)-(cs.length:O)+6=e:=λi' h=>by rw[he,az,h];omega
  show jJ point (c::(cs++zs)) i n=_;by_cases dA:c=48
  .have gF:cs≠[]:=λh=>hl (by rw[h,dA];rfl)
   have rH:cs.getLast?≠Zf 48:=by
    cases cs with
    |nil=>exact Zj rfl gF
    |cons a a2=>simpa[Zw]using hl
   have zO:cg (c::cs)=cg cs:=by rw[cg,dA];simp
   rw[GY dA,GW point zs hz cs (i+1) n hd.tail gF rH h0 h1,ihe _ rfl,zO]
  .have EK:=PK dA hc.1;have pd:=Fx (cs.length+e.toNat);have um:10^(cs.length+e.toNat)<=((c.toNat:O)-48)*10^(cs.length+e.toNat):=by
    have:=ZI EK (show(0:O)<=10^(cs.length+e.toNat) by omega);omega
   by_cases hneg:e<0
   .rw[Za (by omega)];by_cases hf:point-(i:O)+5<0\/15<point-(i:O)+5
    .exact KO dA hf
    .by_cases hb:1000000000000000<n+((c.toNat:O)-48)*10^(point-(i:O)+5).toNat
     .exact KN dA hf hb
     .have gF:cs≠[]:=λh=>by rw[h]at BX;simp at BX;omega
      have rH:cs.getLast?≠Zf 48:=by
       cases cs with
       |nil=>exact Zj rfl gF
       |cons a a2=>simpa[Zw]using hl
      have E0:=IA (d:=(c.toNat:O)-48) (p:=(point-(i:O)+5).toNat) (by omega) (by omega) (by omega);rw[KP dA hf hb,GW point zs hz cs (i+1) _ hd.tail gF rH (by omega) (by omega),ihe _ rfl,Za (by omega)]
   .have Mf:(point-(i:O)+5).toNat=cs.length+e.toNat:=by omega
    by_cases hf:point-(i:O)+5<0\/15<point-(i:O)+5
    .rw[KO dA hf,Za];have xi:(10:O)^16<=10^(cs.length+e.toNat):=by
      have:(10:Ze)^16<=10^(cs.length+e.toNat):=ZV (by omega) (by omega);exact_mod_cast this
     rw[hv];omega
    .by_cases hb:1000000000000000<n+((c.toNat:O)-48)*10^(point-(i:O)+5).toNat
     .rw[KN dA hf hb,Za];rw[Mf]at hb;rw[hv];omega
     .rw[KP dA hf hb,Mf];rw[Mf]at hb;by_cases gF:cs=[]
      .subst gF;rw[Zz,KQ point zs _ _ hz,hv];simp only[cg,O.zero_mul,Zv];rw[Zd ⟨by omega,by omega⟩]
      .have rH:cs.getLast?≠Zf 48:=by
        cases cs with
        |nil=>exact Zj rfl gF
        |cons a a2=>simpa[Zw]using hl
       rw[GW point zs hz cs (i+1) _ hd.tail gF rH (by omega) (by omega),ihe _ rfl,hv,ZB]
theorem Vj:∀(a b:Zb Zc),cg (a++b)=cg a*10^b.length+cg b
 |[],b=>by simp[cg]
 |c::cs,b=>by
  rw[Zt,cg,cg,Vj cs b,Zp,ZK,ZC,ZD,ZB]
theorem Vl:∀{l:Zb Zc},(∀c∈l,c=48)->cg l=0
 |[],_=>rfl
 |c::cs,h=>by
  rw[cg,Vl (λx hx=>h x (by simp[hx])),h c (by simp)];simp
theorem Ae:∀n,(∀c∈Lib.repeatL [48] n,c=(48:Zc))/\(Lib.repeatL [48] n).length=n
 |0=>⟨by simp[Lib.repeatL],rfl⟩
 |n+1=>by
  obtain⟨h1,h2⟩:=Ae n;refine⟨λc hc=>?_,?_⟩
  .rw[Lib.repeatL]at hc;simp only[Zt,Zz,Zb.mem_cons]at hc;rcases hc with rfl|hc
   .rfl
   .exact h1 c hc
  .rw[Lib.repeatL];simp[h2]
theorem Vk(a:Zb Zc)(n:Ze):cg (a++Lib.repeatL [48] n)=cg a*10^n:=by
 rw[Vj,(Ae n).2,Vl (Ae n).1,Zv]
theorem TS:∀(l:Zb Zc) (acc:Ze),ef l->acc<=18446744073709551615 ->
 Lib.parseUintM 18446744073709551615 acc l=if(acc:O)*10^l.length+cg l<=18446744073709551615 then .ok ((acc:O)*10^l.length+cg l).toNat else .range
 |[],acc,_,h=>by
  simp only[ZO,ZL,ZJ,cg,Zv];rw[Lib.parseUintM,Zd (by omega)];simp
 |c::cs,acc,hd,h=>by
  have hc:=hd c (by simp);have SL:=xX hd.tail;have hp:=Fx cs.length;obtain⟨P,hP⟩:∃P:O,P=10^cs.length:=⟨_,rfl⟩
  obtain⟨a2,Rg⟩:∃a2:Ze,a2=acc*10+(c.toNat-48):=⟨_,rfl⟩
  have afb:(acc:O)*10^(c::cs).length+cg (c::cs)=(a2:O)*10^cs.length+cg cs:=by
   rw[cg,Zb.length_cons,O.pow_succ,<-hP,<-ZB,Rg];have:((acc*10+(c.toNat-48):Ze):O)=(acc:O)*10+((c.toNat:O)-48):=by omega
   rw[this,ZC,O.mul_comm P 10,<-ZD]
  have um:(a2:O)<=(a2:O)*10^cs.length:=by
   have:=O.mul_le_mul_of_nonneg_left hp (show(0:O)<=(a2:O) by omega);omega
  rw[afb,Lib.parseUintM,Zd hc,<-Rg];split
  .rw[Za (by omega)]
  .split
   .rw[Za (by omega)]
   .exact TS cs a2 hd.tail (by omega)
theorem TR(hd:ef l)(bj:l≠[]):Lib.parseIntB 64 l=if cg l<9223372036854775808 then .ok (cg l)else .range:=by
 have hv:=xX hd;cases l with
 |nil=>exact Zj rfl bj
 |cons c r=>
  have hc:=hd c (by simp);rw[Lib.parseIntB];rw[Za (show ¬(c.toNat=43\/c.toNat=45) by omega),Lib.parseUintB,Za (by simp),show(2^64-1:Ze)=18446744073709551615 from rfl,TS (c::r) 0 hd (by omega)];by_cases h64:cg (c::r)<=18446744073709551615
  .rw[show((0:Ze):O)*10^(c::r).length+cg (c::r)=cg (c::r) by simp];rw[Zd h64];simp only;by_cases h63:cg (c::r)<9223372036854775808
   .rw[Zd h63,Za (by simp only[show(2^(64-1):Ze)=9223372036854775808 from rfl];omega),Za (by omega),Za (by omega)]
    congr 1;omega
   .rw[Za h63,Zd (by simp only[show(2^(64-1):Ze)=9223372036854775808 from rfl];omega)]
  .rw[show((0:Ze):O)*10^(c::r).length+cg (c::r)=cg (c::r) by simp];rw[Za h64,Za (by omega)]
theorem vZ:∀(l:Zb Zc),∃zs,l=zs++Lib.trimLeftB l 48/\(∀c∈zs,c=48)/\(Lib.trimLeftB l 48).head?≠Zf 48
 |[]=>⟨[],rfl,by simp,by simp[Lib.trimLeftB]⟩
 |c::cs=>by
  by_cases h:c=48
  .obtain⟨zs,h1,h2,h3⟩:=vZ cs;have e:Lib.trimLeftB (c::cs) 48=Lib.trimLeftB cs 48:=by simp[Lib.trimLeftB,h]
   rw[e];exact⟨c::zs,by rw[Zt,<-h1],λx hx=>by simp at hx;rcases hx with rfl|hx;exact h;exact h2 x hx,h3⟩
  .have e:Lib.trimLeftB (c::cs) 48=c::cs:=by simp[Lib.trimLeftB,h]
   rw[e];exact⟨[],rfl,by simp,by simp[h]⟩
theorem Af(l:Zb Zc):∃zs,l=Lib.trimRightB l 48++zs/\(∀c∈zs,c=48)/\(Lib.trimRightB l 48).getLast?≠Zf 48:=by
 obtain⟨zs,h1,h2,h3⟩:=vZ l.reverse;refine⟨zs.reverse,?_,λc hc=>h2 c (by simpa using hc),?_⟩
 .have:=congrArg Zb.reverse h1;rw[Zb.reverse_reverse,Zb.reverse_append]at this;exact this
 .show((Lib.trimLeftB l.reverse 48).reverse).getLast?≠Zf 48;rw[Zb.getLast?_reverse];exact h3
theorem Qw(point:O)(l:Zb Zc)(n:O):∀(zs:Zb Zc) (i:Ze),(∀c∈zs,c=48)->jJ point (zs++l) i n=jJ point l (i+zs.length) n
 |[],i,_=>by simp
 |c::cs,i,h=>by
  rw[Zt,GY (h c (by simp)),Qw point l n cs (i+1) (λx hx=>h x (by simp[hx]))]
  congr 1;simp;omega
theorem KR(ds:Zb Zc)(point:O)(hd:ef ds):kI ds point =
 if Lib.trimRightB (Lib.trimLeftB ds 48) 48=[]then Zf 0
 else if 0<=point-(ds.length:O)+((Lib.trimLeftB ds 48).length:O)-((Lib.trimRightB (Lib.trimLeftB ds 48) 48).length:O)+6/\cg (Lib.trimRightB (Lib.trimLeftB ds 48) 48)*10^(point-(ds.length:O)+((Lib.trimLeftB ds 48).length:O)-((Lib.trimRightB (Lib.trimLeftB ds 48) 48).length:O)+6).toNat<=1000000000000000
  then Zf (cg (Lib.trimRightB (Lib.trimLeftB ds 48) 48)*10^(point-(ds.length:O)+((Lib.trimLeftB ds 48).length:O)-((Lib.trimRightB (Lib.trimLeftB ds 48) 48).length:O)+6).toNat)else Zl:=by
 obtain⟨z1,e1,h1,_⟩:=vZ ds;obtain⟨z2,e2,h2,h3⟩:=Af (Lib.trimLeftB ds 48);generalize Lib.trimRightB (Lib.trimLeftB ds 48) 48=C at *
 generalize Lib.trimLeftB ds 48=D at *
 subst e2;subst e1;rw[kI,Qw point _ 0 z1 0 h1];by_cases hC:C=[]
 .rw[Zd hC];subst hC;exact KQ point _ _ _ (by simpa using h2)
 .have EL:ef C:=λc hc=>hd c (by simp[hc])
  rw[Za hC,GW point z2 h2 C _ 0 EL hC h3 (by omega) (by omega)];have:point-((0+z1.length:Ze):O)-(C.length:O)+6=point-((z1++(C++z2)).length:O)+((C++z2).length:O)-(C.length:O)+6:=by
   simp only[Zp];omega
  rw[this];simp only[O.zero_add]
theorem Nn:∀(l:Zb Zc) (p q:O),ef l->0<=p->p<=2000000->0<=q->(p=q\/(100000<=p/\100000<=q))->iG l p=jO l q\/(100000<=iG l p/\100000<=jO l q)
 |[],p,q,_,_,_,_,h=>h
 |c::cs,p,q,hd,h0,h1,h2,h=>by
  have hc:=hd c (by simp);rw[iG,jO];split
  .exact Nn cs _ _ hd.tail (by omega) (by omega) (by omega) (by omega)
  .exact Nn cs _ _ hd.tail (by omega) (by omega) (by omega) (by omega)
theorem N8:∀{l:Zb Zc},ef l->l≠[]->l.getLast?≠Zf 48->1<=cg l
 |[],_,h,_=>Zj rfl h
 |[c],hd,_,hl=>by
  have:=PK (c:=c) (λe=>hl (by rw[e];rfl)) (hd c (by simp)).1;simp only[cg,ZO,ZL,ZJ,Zv];omega
 |c::d::cs,hd,_,hl=>by
  have h1:=N8 (l:=d::cs) hd.tail (by simp) (by simpa[Zw]using hl);have h2:0<=((c.toNat:O)-48)*10^(d::cs).length:=ZE (by have:=hd c (by simp);omega) (by have:=Fx (d::cs).length;omega);rw[cg];omega
def jV(ds:Zb Zc)(fr:Ze)(p:O):Option O:=
 if Lib.trimRightB (Lib.trimLeftB ds 48) 48=[]then Zf 0
 else if p+(((Lib.trimLeftB ds 48).length:O)-((Lib.trimRightB (Lib.trimLeftB ds 48) 48).length:O)-(fr:O)+6)<0\/15<p+(((Lib.trimLeftB ds 48).length:O)-((Lib.trimRightB (Lib.trimLeftB ds 48) 48).length:O)-(fr:O)+6)then Zl
 else if 1000000000000000<cg (Lib.trimRightB (Lib.trimLeftB ds 48) 48)*10^(p+(((Lib.trimLeftB ds 48).length:O)-((Lib.trimRightB (Lib.trimLeftB ds 48) 48).length:O)-(fr:O)+6)).toNat then Zl
 else Zf (cg (Lib.trimRightB (Lib.trimLeftB ds 48) 48)*10^(p+(((Lib.trimLeftB ds 48).length:O)-((Lib.trimRightB (Lib.trimLeftB ds 48) 48).length:O)-(fr:O)+6)).toNat)
theorem PC{v:O}{E:Ze}(hv:1<=v)(hE:15<E):1000000000000000<v*10^E:=by
 have xi:(10:O)^16<=10^E:=by
  have:(10:Ze)^16<=10^E:=ZV (by omega) (by omega);exact_mod_cast this
 have:=ZI hv (show(0:O)<=10^E by omega);omega
theorem acB(wh fr:Zb Zc)(p:O)(hd:ef (wh++fr)):jV (wh++fr) fr.length p=kI (wh++fr) ((wh.length:O)+p):=by
 rw[KR _ _ hd,jV];obtain⟨z1,e1,_,_⟩:=vZ (wh++fr);obtain⟨z2,e2,_,h3⟩:=Af (Lib.trimLeftB (wh++fr) 48);have hl:((wh++fr).length:O)=(wh.length:O)+(fr.length:O):=by simp
 have EL:ef (Lib.trimRightB (Lib.trimLeftB (wh++fr) 48) 48):=λc hc=>hd c (by rw[e1];exact ZQ _ (by rw[e2];exact ZP _ hc))
 generalize Lib.trimRightB (Lib.trimLeftB (wh++fr) 48) 48=C at *
 generalize Lib.trimLeftB (wh++fr) 48=D at *
 rw[hl];by_cases hC:C=[]
 .rw[Zd hC,Zd hC]
 .rw[Za hC,Za hC];have hv:=N8 EL hC h3;obtain⟨E,hE⟩:∃E:O,E=p+((D.length:O)-(C.length:O)-(fr.length:O)+6):=⟨_,rfl⟩
  rw[show(wh.length:O)+p-((wh.length:O)+(fr.length:O))+(D.length:O)-(C.length:O)+6=E by omega,<-hE];by_cases sF:15<E
  .rw[Zd (.inr sF),Za];have:=PC (v:=cg C) (E:=E.toNat) hv (by omega);omega
  .by_cases h0:E<0
   .rw[Zd (.inl h0),Za (by omega)]
   .rw[Za (by omega)];by_cases hb:1000000000000000<cg C*10^E.toNat
    .rw[Zd hb,Za (by omega)]
    .rw[Za hb,Zd (by omega)]
theorem acC(ds:Zb Zc)(a b:O)(hd:ef ds)(hl:ds.length<=50000)(h:(90000<=a/\90000<=b)\/(a<=-90000/\b<=-90000)):kI ds a=kI ds b:=by
 rw[KR _ _ hd,KR _ _ hd];obtain⟨z1,e1,_,_⟩:=vZ ds;obtain⟨z2,e2,_,h3⟩:=Af (Lib.trimLeftB ds 48);have EL:ef (Lib.trimRightB (Lib.trimLeftB ds 48) 48):=λc hc=>hd c (by rw[e1];exact ZQ _ (by rw[e2];exact ZP _ hc))
 have l1:ds.length=z1.length+(Lib.trimLeftB ds 48).length:=by
  have:=congrArg ZN e1
  rwa [Zp]at this
 have l2:(Lib.trimLeftB ds 48).length=(Lib.trimRightB (Lib.trimLeftB ds 48) 48).length+z2.length:=by
  have:=congrArg ZN e2
  rwa [Zp]at this
 generalize Lib.trimRightB (Lib.trimLeftB ds 48) 48=C at *
 generalize Lib.trimLeftB ds 48=D at *
 by_cases hC:C=[]
 .rw[Zd hC,Zd hC]
 .rw[Za hC,Za hC];have hv:=N8 EL hC h3;have none_of:∀x:O,(90000<=x\/x<=-90000)->¬(0<=x-(ds.length:O)+(D.length:O)-(C.length:O)+6/\cg C*10^(x-(ds.length:O)+(D.length:O)-(C.length:O)+6).toNat<=1000000000000000):=by
   intro x hx hh;have:=PC (v:=cg C) (E:=(x-(ds.length:O)+(D.length:O)-(C.length:O)+6).toNat) hv (by omega);omega
  rw[Za (none_of a (by omega)),Za (none_of b (by omega))]
theorem acF(wh fr l:Zb Zc)(neg:Zm)(hd:ef (wh++fr))(hp:ef l)(hl:(wh++fr).length<=5000):
 jV (wh++fr) fr.length (if neg then-jO l 0 else jO l 0)=kI (wh++fr) ((wh.length:O)+(if neg then-iG l 0 else iG l 0)):=by
 rw[acB wh fr _ hd];have Im:wh.length<=5000:=by rw[Zp]at hl;omega
 rcases Nn l 0 0 hp (by omega) (by omega) (by omega) (.inl rfl)with h|h
 .rw[h]
 .apply acC _ _ _ hd (by omega)
  cases neg <;> simp <;> omega
theorem S4:∀{l chars:Zb Zc},(∀c∈l,chars.contains c=Zk)->Lib.indexAny l chars=-1
 |[],_,_=>rfl
 |b::l,chars,h=>by
  rw[Lib.indexAny,Za (by rw[h b (by simp)];simp),S4 (λc hc=>h c (by simp[hc]))];rfl
theorem S3:∀{l:Zb Zc} {e:Zc} {r chars:Zb Zc},(∀c∈l,chars.contains c=Zk)->chars.contains e=Zn->Lib.indexAny (l++e::r) chars=(l.length:O)
 |[],e,r,chars,_,he=>by rw[Zz,Lib.indexAny,Zd he];rfl
 |b::l,e,r,chars,h,he=>by
  have ih:=S3 (l:=l) (e:=e) (r:=r) (chars:=chars) (λc hc=>h c (by simp[hc])) he;rw[Zt,Lib.indexAny,Za (by rw[h b (by simp)];simp),ih,Za (by simp)];simp
theorem S6:∀{l:Zb Zc} {x:Zc},(∀c∈l,c≠x)->Lib.indexByte l x=-1
 |[],_,_=>rfl
 |b::l,x,h=>by
  rw[Lib.indexByte,Za (by simpa using h b (by simp)),S6 (λc hc=>h c (by simp[hc]))];rfl
theorem S5:∀{l:Zb Zc} {x:Zc} {r:Zb Zc},(∀c∈l,c≠x)->Lib.indexByte (l++x::r) x=(l.length:O)
 |[],x,r,_=>by rw[Zz,Lib.indexByte,Zd (by simp)];rfl
 |b::l,x,r,h=>by
  have ih:=S5 (l:=l) (x:=x) (r:=r) (λc hc=>h c (by simp[hc]));rw[Zt,Lib.indexByte,Za (by simpa using h b (by simp)),ih,Za (by simp)];simp
theorem P7(h:∀c∈l,c≠x):Lib.cut l [x]=(l,[],Zk):=by
 rw[Lib.cut,Lib.index_one,S6 h];rfl
theorem P6{r:Zb Zc}(h:∀c∈l,c≠x):Lib.cut (l++x::r) [x]=(l,r,Zn):=by
 rw[Lib.cut,Lib.index_one,S5 h,Zd (by omega)];simp
def dS(w:Zh):Prop:=kE w/\(∃m,w.cell? ⟨10,0,Zl⟩=Zf (.int .i64 m))/\∃te pe,w.cell? ⟨12,0,Zl⟩=Zf (.iface te pe)
theorem dS.below(h:dS w)(hb:Below w.heap.size w w'):dS w':=by
 obtain⟨h1,⟨m,h2⟩,te,pe,h3⟩:=h;refine⟨⟨λc hc=>lm (h1.1 c hc) (hb.block _ (qA (h1.1 c hc))),λi hi=>⟨lm (h1.2 i hi).1 (hb.block _ (qA (h1.2 i hi).1)),lm (h1.2 i hi).2 (hb.block _ (qA (h1.2 i hi).2))⟩⟩,⟨m,lm h2 (hb.block _ (qA h2))⟩,te,pe,lm h3 (hb.block _ (qA h3))⟩
theorem dS.but(h:dS w)(hb:ab b w w')(fD:15<=b):dS w':=by
 obtain⟨h1,⟨m,h2⟩,te,pe,h3⟩:=h;exact⟨I2 h1 hb fD,⟨m,lm h2 (hb.block _ (qA h2) (by simp;omega))⟩,te,pe,lm h3 (hb.block _ (qA h3) (by simp;omega))⟩
theorem dS.drewN(h:dS w)(n:Ze):dS (w.drewN n):=h
theorem nn(l:Zb Zc):(bs l).data.toList=l:=by simp[bs]
theorem Bh(t:Zg):bs t.data.toList=t:=by simp[bs]
theorem yQ(l:Zb Zc)(a b:Ze):(bs l).extract a b=bs ((l.take b).drop a):=by
 apply Zg.ext
 rw[Zg.data_extract];simp[bs,Zb.extract_toArray,Zb.drop_take]
def nG(wh fr:Zb Zc)(dot:Zm):Zb Zc:=if dot then wh++46::fr else wh
def rS(sg:Ze):Zb Zc:=if sg=0 then[]else if sg=1 then[45]else[43]
theorem VH(l:Zb Zc)(w:Zh):Zi prog 93 #[.string (bs l),.string ⟨#[45]⟩] w λe w'=>e=.returned (.tuple #[.string (bs (Zu l [45])),.bool (Zr l [45])])/\w=w':=by
 refine(Tryz.strings_CutPrefix _ _ w).mono ?_;rintro e w' ⟨rfl,rfl⟩;rw[nn];exact⟨rfl,rfl⟩
theorem VG(l:Zb Zc)(i:O)(w:Zh)(hl:l.length<=100000)(ha:∀c∈l,c.toNat<128)(hi:Lib.indexAny l [101,69]=i):Zi prog 109 #[.string (bs l),.string ⟨#[101,69]⟩] w λe w'=>e=.returned (.int .i64 i)/\Below w.heap.size w w':=by
 refine(Tryz.strings_IndexAny_laid (bs l) ⟨#[101,69]⟩ w (by rw[eO];omega) (by decide) ?_ ?_).mono ?_
 .intro j c hj;rw[nn]at hj;exact ha c (ZU hj)
 .intro j c hj;have hm:c∈([101,69]:Zb Zc):=ZU hj;simp at hm;rcases hm with rfl|rfl <;> decide
 .rintro e w' ⟨rfl,h⟩;rw[nn];exact⟨by rw[<-hi],h⟩
theorem VM(l:Zb Zc)(w:Zh)(hE:dS w)(hl:l.length<=100000):Zi prog 110 #[.string (bs l),.string ⟨#[46]⟩] w λe w'=>e=.returned (.tuple #[.string (bs (Lib.cut l [46]).1),.string (bs (Lib.cut l [46]).2.1),.bool (Lib.cut l [46]).2.2])/\∃n,w'=w.drewN n:=by
 obtain⟨_,⟨m,h2⟩,_⟩:=hE;refine(Tryz.strings_Cut (bs l) ⟨#[46]⟩ m w (by rw[eO];omega) h2).mono ?_;rintro e w' ⟨rfl,h⟩;rw[nn];exact⟨rfl,h⟩
theorem VJ(l:Zb Zc)(w:Zh):Zi prog 81 #[.string (bs l),.string ⟨#[48]⟩] w λe w'=>e=.returned (.string (bs (Lib.trimLeftB l 48)))/\w=w':=by
 refine(Tryz.strings_TrimLeft_one (bs l) 48 (by decide) w).mono ?_;rintro e w' ⟨rfl,rfl⟩;rw[nn];exact⟨rfl,rfl⟩
theorem VO(l:Zb Zc)(w:Zh)(hl:l.length<=100000):Zi prog 76 #[.string (bs l),.string ⟨#[48]⟩] w λe w'=>e=.returned (.string (bs (Lib.trimRightB l 48)))/\w=w':=by
 refine(Tryz.strings_TrimRight_one (bs l) 48 (by decide) w (by rw[eO];omega)).mono ?_;rintro e w' ⟨rfl,rfl⟩;rw[nn];exact⟨rfl,rfl⟩
theorem VN(n:O)(w:Zh)(h0:0<=n)(h1:n<=15):Zi prog 113 #[.string ⟨#[48]⟩,.int .i64 n] w λe w'=>e=.returned (.string (bs (Lib.repeatL [48] n.toNat)))/\Below w.heap.size w w':=by
 obtain⟨m,rfl⟩:∃m:Ze,n=(m:O):=⟨n.toNat,by omega⟩
 refine(Tryz.strings_Repeat ⟨#[48]⟩ m w (by omega) (by show 1*m<=_;omega)).mono ?_;rintro e w' ⟨rfl,h⟩;exact⟨by simp;rfl,h⟩
theorem VL(l:Zb Zc)(w:Zh)(hd:ef l)(bj:l≠[])(hl:l.length<=100000)(h:cg l<9223372036854775808):Zi prog 112 #[.string (bs l),.int .i64 10,.int .i64 64] w λe w'=>e=.returned (.tuple #[.int .i64 (cg l),.nilIface])/\Below w.heap.size w w':=by
 refine(Tryz.strconv_ParseInt_10_at64_ok (bs l) (by rw[eO];omega) (cg l) (by rw[nn,TR hd bj,Zd h]) w).mono ?_;rintro e w' ⟨rfl,h⟩;refine⟨rfl,?_⟩;rcases h with rfl|⟨t,rfl⟩
 .exact Below.refl _ _
 .exact Lib.bytesWorld_below _ _ _
theorem VK(l:Zb Zc)(w:Zh)(hE:dS w)(hd:ef l)(bj:l≠[])(hl:l.length<=100000)(h:¬cg l<9223372036854775808):Zi prog 112 #[.string (bs l),.int .i64 10,.int .i64 64] w λe w'=>(∃v N,e=.returned (.tuple #[.int .i64 v,.iface 251 (.pointer (Zf ⟨N,0,Zl⟩))]))/\Below w.heap.size w w':=by
 obtain⟨_,_,te,pe,h3⟩:=hE;refine(Tryz.strconv_ParseInt_10_at64_range (bs l) (by rw[eO];omega) (by rw[nn,TR hd bj,Za h]) _ w h3 (.inr ⟨te,pe,rfl⟩)).mono ?_;rintro e w' ⟨N,rfl,_,_,h⟩;exact⟨⟨_,N,rfl⟩,h⟩
end Go.Proofs.YtdlgkgfeoiohiaaGreatDoor
