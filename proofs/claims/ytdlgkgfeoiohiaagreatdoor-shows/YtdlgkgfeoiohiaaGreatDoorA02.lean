/- Part 2. -/
import Derived.Test.YtdlgkgfeoiohiaaGreatDoorA01
open Bool renaming false -> Zp
open Go renaming World -> Zi,Calls -> Zj
open Go.RowKit.Below renaming heap_alloc -> Zn
open Go.Value renaming int -> Zw
open Go.World renaming drewN -> Za,setCell -> Zb
open List renaming map_cons -> Zr,map_nil -> Zt,append_nil -> Zv
open Option renaming some -> O,none -> Zf
open Prod.mk renaming injEq -> Zu
open UInt8 renaming ofNat -> Zh
open _root_ renaming Int -> Zc,Nat -> Zd,if_neg -> Ze,ByteArray -> Zg,UInt8 -> Zk,Bool -> Zl,List -> Zm,beq_eq_false_iff_ne -> Zo,if_pos -> Zq
namespace Go.Proofs.YtdlgkgfeoiohiaaGreatDoor
set_option linter.unusedVariables false
set_option maxHeartbeats 16000000
set_option maxRecDepth 100000
open Go.RowKit J Tryz
variable {s:Zg}{k k1 k2 k3 k4 k':Zd}{bad a c bad1 a2 bad2 lo hi a3 bad3 b d m b1 b2 b3 b4 bad':Zc}
theorem yZ(b:Zd)(s:Zg)(k:Zd)(d bad:Zc)(lg:Zl)(lo hi:Zc)(w:Zi)(hb:w.heap[b]?=O (aq s k d bad lg))(hs:s.size<=1000)(bU:-1<=bad)(ik:0<=lo):
 Zj prog 216 #[.pointer (O ⟨b,0,Zf⟩),.int .i64 lo,.int .i64 hi] w λe w'=>∃a k' bad',e=.returned (.int .i64 a)/\ab b w w'/\w'.heap[b]?=O (aq s k' d bad' lg)/\XX (dw s k bad lo hi=(a,k',bad'))/\0<=a/\a<=255/\-1<=bad':=by
 refine(acY b s k d bad lg lo hi w hb hs bU ik).mono ?_;rintro e w' ⟨rfl,h1,h2⟩;have:=acX s k bad lo hi bU ik;exact⟨_,_,_,rfl,h1,h2,rfl,this.1,this.2.1,this.2.2⟩
theorem sR(b:Zd)(s:Zg)(k:Zd)(d bad:Zc)(lg:Zl)(lo hi:Zc)(w:Zi)(hb:w.heap[b]?=O (aq s k d bad lg))(hs:s.size<=1000)(bU:-1<=bad):
 Zj prog 236 #[.pointer (O ⟨b,0,Zf⟩),.int .i64 lo,.int .i64 hi] w λe w'=>∃a k' bad',e=.returned (.int .i64 a)/\ab b w w'/\w'.heap[b]?=O (aq s k' d bad' lg)/\XX (bQ s k bad lo hi=(a,k',bad'))/\0<=a/\a<=15/\-1<=bad':=by
 refine(ad4 b s k d bad lg lo hi w hb hs bU).mono ?_;rintro e w' ⟨rfl,h1,h2⟩;have:=ad3 s k bad lo hi bU;exact⟨_,_,_,rfl,h1,h2,rfl,this.1,this.2.1,this.2.2⟩
theorem Vp(s:Zg):∀(l:Zm Zk) (k:Zd) (bad:Zc),-1<=bad->-1<=(aQ s k bad l).2
 |[],k,bad,h=>h
 |c::cs,k,bad,h=>by
  simp only[aQ];split
  .exact Vp s cs (k+1) bad h
  .have:=@Br k bad;simp;omega
theorem uJ(b:Zd)(s lit:Zg)(k:Zd)(d bad:Zc)(lg:Zl)(w:Zi)(hb:w.heap[b]?=O (aq s k d bad lg))(hs:s.size<=1000)(bU:-1<=bad)(hl:lit.size<=1000):
 Zj prog 126 #[.pointer (O ⟨b,0,Zf⟩),.string lit] w λe w'=>∃k' bad',e=.returned (.tuple #[])/\ab b w w'/\w'.heap[b]?=O (aq s k' d bad' lg)/\XX (aQ s k bad lit.data.toList=(k',bad'))/\-1<=bad':=by
 refine(akb b s lit k d bad lg w hb hs bU hl).mono ?_;rintro e w' ⟨rfl,h1,h2⟩;exact⟨_,_,rfl,h1,h2,rfl,Vp s _ _ _ bU⟩
def et(s:Zg)(k:Zd)(bad:Zc):Zd×Zc:=
 let r1:=dw s k bad 194 244
 let r2:=dw s r1.2.1 r1.2.2 (if r1.1=240 then 144 else if r1.1=224 then 160 else 128) (if r1.1=244 then 143 else if r1.1=237 then 159 else 191)
 let r3:=if 224<=r1.1 then dw s r2.2.1 r2.2.2 128 191 else r2
 let r4:=if 240<=r1.1 then dw s r3.2.1 r3.2.2 128 191 else r3
 (r4.2.1,r4.2.2)
theorem Iy(h1:dw s k bad 194 244=(a,k1,bad1))(ha:a<224)(h2:dw s k1 bad1 128 191=(a2,k2,bad2)):
 et s k bad=(k2,bad2):=by
 simp only[et,h1];rw[Ze (show ¬a=240 by omega),Ze (show ¬a=224 by omega),Ze (show ¬a=244 by omega),Ze (show ¬a=237 by omega),Ze (show ¬240<=a by omega),Ze (show ¬224<=a by omega),h2]
theorem Fq(h1:dw s k bad 194 244=(a,k1,bad1))(ha:224<=a)(Ew:a<240)
 (ik:lo=if a=240 then 144 else if a=224 then 160 else 128) (rC:hi=if a=244 then 143 else if a=237 then 159 else 191) (h2:dw s k1 bad1 lo hi=(a2,k2,bad2)) (h3:dw s k2 bad2 128 191=(a3,k3,bad3)):
 et s k bad=(k3,bad3):=by
 simp only[et,h1];rw[<-ik,<-rC,h2,Ze (show ¬240<=a by omega),Zq ha,h3]
theorem Fp{a4:Zc}{bad4:Zc}(h1:dw s k bad 194 244=(a,k1,bad1))(ha:240<=a)
 (ik:lo=if a=240 then 144 else if a=224 then 160 else 128) (rC:hi=if a=244 then 143 else if a=237 then 159 else 191) (h2:dw s k1 bad1 lo hi=(a2,k2,bad2)) (h3:dw s k2 bad2 128 191=(a3,k3,bad3)) (h4:dw s k3 bad3 128 191=(a4,k4,bad4)):
 et s k bad=(k4,bad4):=by
 simp only[et,h1];rw[<-ik,<-rC,h2,Zq ha,Zq (show 224<=a by omega)];simp only[h3,h4]
theorem Tp(b:Zd)(s:Zg)(k:Zd)(d bad:Zc)(lg:Zl)(w:Zi)(hb:w.heap[b]?=O (aq s k d bad lg))(hs:s.size<=1000)(bU:-1<=bad):
 Zj prog 177 #[.pointer (O ⟨b,0,Zf⟩)] w λe w'=>e=.returned (.tuple #[])/\ab b w w'/\w'.heap[b]?=O (aq s (et s k bad).1 d (et s k bad).2 lg):=by
 go_enter func177,ntmps177;go_wp2_with fail;refine(yZ b s k d bad lg 194 244 w hb hs bU (by omega)).mono ?_;rintro e w1 ⟨a,k1,bad1,rfl,dG,eP,aW,Lm,Ln,sK⟩;clear hb;rcases(show a<224\/a=224\/(224<a/\a<237)\/a=237\/(237<a/\a<240)\/a=240\/(240<a/\a<244)\/a=244\/244<a from by omega)with hx|rfl|hx|rfl|hx|rfl|hx|rfl|hx
 .go_wp2_with fail;refine(yZ b s k1 d bad1 lg _ _ w1 eP hs sK (by omega)).mono ?_;rintro e w2 ⟨a2,k2,bad2,rfl,ce,dc,fh,_,_,xo⟩;go_wp2_with fail
  go_end0
  refine⟨rfl,dG.trans ce,?_⟩;rw[Iy aW.o hx fh.o];exact dc
 iterate 4
  .try obtain⟨hx,hx'⟩:=hx
   go_wp2_with fail;refine(yZ b s k1 d bad1 lg _ _ w1 eP hs sK (by omega)).mono ?_;rintro e w2 ⟨a2,k2,bad2,rfl,ce,dc,fh,_,_,xo⟩;go_wp2_with fail;refine(yZ b s k2 d bad2 lg _ _ w2 dc hs xo (by omega)).mono ?_;rintro e w3 ⟨a3,k3,bad3,rfl,bi,di,nY,_,_,uj⟩;go_wp2_with fail
   go_end0
   refine⟨rfl,(dG.trans ce).trans bi,?_⟩;rw[Fq aW.o (by omega) (by omega) (by repeat' split <;> omega) (by repeat' split <;> omega) fh.o nY.o];exact di
 iterate 4
  .try obtain⟨hx,hx'⟩:=hx
   go_wp2_with fail;refine(yZ b s k1 d bad1 lg _ _ w1 eP hs sK (by omega)).mono ?_;rintro e w2 ⟨a2,k2,bad2,rfl,ce,dc,fh,_,_,xo⟩;go_wp2_with fail;refine(yZ b s k2 d bad2 lg _ _ w2 dc hs xo (by omega)).mono ?_;rintro e w3 ⟨a3,k3,bad3,rfl,bi,di,nY,_,_,uj⟩;go_wp2_with fail;refine(yZ b s k3 d bad3 lg _ _ w3 di hs uj (by omega)).mono ?_;rintro e w4 ⟨a4,k4,bad4,rfl,eb,de,vO,_,_,Lt⟩;go_wp2_with fail
   go_end0
   refine⟨rfl,((dG.trans ce).trans bi).trans eb,?_⟩;rw[Fp aW.o (by omega) (by repeat' split <;> omega) (by repeat' split <;> omega) fh.o nY.o vO.o];exact de
theorem UB(b:Zd)(s:Zg)(k:Zd)(d:Zc)(lg:Zl)(w:Zi)(hb:w.heap[b]?=O (aq s k d (-1) lg))(hs:s.size<=1000)(hd:aK (gb s k)=true):
 Zj prog 179 #[.pointer (O ⟨b,0,Zf⟩)] w λe w'=>e=.returned (.string (s.extract k (aA s k)))/\ab b w w'/\w'.heap[b]?=O (aq s (aA s k) d (-1) lg):=by
 have hk:=zT hd;have qH:48<=gb s k/\gb s k<=57:=by simpa[aK]using hd
 obtain⟨g0,g1,g2,g3,g4,hf⟩:=fS hb;have dF:XX (w.heap[b]?=O (aq s k d (-1) lg)):=hb;have HD:XX (aK (gb s k)=true):=hd;clear hb g0 g2 g3 g4 hd;go_enter func179,ntmps179;go_wp2_with (go_at_call 216;refine(QG b s k d (-1) lg _ _ _ (by exact dF.o) (by rw[ct];omega) (by rw[ct];omega) (by omega)).mono ?_;rintro e w1 ⟨rfl,dG,eP⟩)
 go_loopg [] (s.size-(k+1)) (λg wr=>∃j:Zd,k<j/\j<=s.size/\g=s.size-j/\aA s j=aA s k/\ab b w wr/\wr.heap[b]?=O (aq s j d (-1) lg))
 case atStart=>exact⟨k+1,by omega,by omega,rfl,(uG HD.o).symm,dG,eP⟩
 case round=>
  obtain⟨j,L0,l9,hg,eQ,ar,ae⟩:=hrel;obtain⟨g0,g1',g2,g3,g4,hf'⟩:=fS ae;have HB:XX (wr.heap[b]?=O (aq s j d (-1) lg)):=ae;have HG:XX (gk=s.size-j):=hg;have HS:XX (aA s j=aA s k):=eQ;obtain⟨c,hc⟩:∃c,c=gb s j:=⟨_,rfl⟩
  have bF:=iN s j;rw[<-hc]at bF;have HC:XX (c=gb s j):=hc;clear ae hg eQ hc g1 hf eP;by_cases hy:48<=c/\c<=57
  .obtain⟨Fh,SV⟩:=hy;have hj:j<s.size:=cC (by rw[<-HC.o];omega);have HN:XX (aA s (j+1)=aA s k):=by
    show _=_;rw[<-HS.o];exact(uG (by rw[<-HC.o];simp[aK];omega)).symm
   go_wp2_with (go_at_call 121;refine(dC b s j d (-1) lg _ (by exact HB.o)).mono ?_;rintro e w' ⟨rfl,n,rfl⟩;rw[ct,<-HC.o])
   go_roundg (s.size-(j+1))
   case measure=>rw[HG.o];omega
   case rel=>exact⟨j+1,by omega,by omega,rfl,HN.o,(ar.drewN _).setCell _ _,ml (w:=wr.drewN _) HB.o (j+1) (by omega)⟩
  .have HN:XX (aA s k=j):=by
    show _=_;rw[<-HS.o];exact FE (by rw[<-HC.o];simp[aK];omega)
   rcases(show c<48\/57<c from by omega)with Fh|Fh
   all_goals
    clear hy;go_wp2_with (go_at_call 121;refine(dC b s j d (-1) lg _ (by exact HB.o)).mono ?_;rintro e w' ⟨rfl,n,rfl⟩;rw[ct,<-HC.o])
    go_quiet (fail);go_wp2;go_ret;exact⟨congrArg (λx=>Ending.returned (.string (s.extract k x))) HN.o.symm,(ar.drewN _).drewN _,by rw[HN.o];exact HB.o⟩
def gj(s:Zg)(k:Zd)(bad:Zc):Zc×Zd×Zc:=
 let r1:=bQ s k bad 0 15
 let r2:=bQ s r1.2.1 r1.2.2 0 (if r1.1=13 then 11 else 15)
 let r3:=bQ s r2.2.1 r2.2.2 0 15
 let r4:=bQ s r3.2.1 r3.2.2 0 15
 let n:=((r1.1*16+r2.1)*16+r3.1)*16+r4.1
 if r1.1≠13\/r2.1<8 then(n,r4.2.1,r4.2.2)else
 let r5:=aQ s r4.2.1 r4.2.2 [92,117]
 let r6:=bQ s r5.1 r5.2 13 13
 let r7:=bQ s r6.2.1 r6.2.2 12 15
 let r8:=bQ s r7.2.1 r7.2.2 0 15
 let r9:=bQ s r8.2.1 r8.2.2 0 15
 (65536+(n-55296)*1024+(r7.1-12)*256+r8.1*16+r9.1,r9.2.1,r9.2.2)
theorem Eb(h1:bQ s k bad 0 15=(a,k1,b1))(hm:m=if a=13 then 11 else 15)(h2:bQ s k1 b1 0 m=(b,k2,b2))(h3:bQ s k2 b2 0 15=(c,k3,b3))(h4:bQ s k3 b3 0 15=(d,k4,b4))
 (hn:a≠13\/b<8):gj s k bad=(((a*16+b)*16+c)*16+d,k4,b4):=by
 simp only[gj,h1,<-hm,h2,h3,h4];rw[Zq hn]
theorem GS{x e f g:Zc}{k5 k6 k7 k8 k9:Zd}{b5 b6 b7 b8 b9:Zc}(h1:bQ s k bad 0 15=(a,k1,b1))(hm:m=if a=13 then 11 else 15)(h2:bQ s k1 b1 0 m=(b,k2,b2))(h3:bQ s k2 b2 0 15=(c,k3,b3))(h4:bQ s k3 b3 0 15=(d,k4,b4))
 (ha:a=13) (hb:8<=b) (h5:aQ s k4 b4 [92,117]=(k5,b5)) (h6:bQ s k5 b5 13 13=(x,k6,b6)) (h7:bQ s k6 b6 12 15=(e,k7,b7)) (h8:bQ s k7 b7 0 15=(f,k8,b8)) (h9:bQ s k8 b8 0 15=(g,k9,b9)):
 gj s k bad=(65536+(((a*16+b)*16+c)*16+d-55296)*1024+(e-12)*256+f*16+g,k9,b9):=by
 simp only[gj,h1,<-hm,h2,h3,h4];rw[Ze (by omega)];simp only[h5,h6,h7,h8,h9]
theorem acq(b:Zd)(s:Zg)(k:Zd)(d bad:Zc)(lg:Zl)(w:Zi)(hb:w.heap[b]?=O (aq s k d bad lg))(hs:s.size<=1000)(bU:-1<=bad):
 Zj prog 217 #[.pointer (O ⟨b,0,Zf⟩)] w λe w'=>e=.returned (.int .i64 (gj s k bad).1)/\ab b w w'/\w'.heap[b]?=O (aq s (gj s k bad).2.1 d (gj s k bad).2.2 lg):=by
 go_enter func217,ntmps217;go_wp2_with fail;refine(sR b s k d bad lg 0 15 w hb hs bU).mono ?_;rintro e w1 ⟨a,k1,bad1,rfl,dG,eP,aW,Lm,Ln,sK⟩;clear hb;rcases(show a=13\/a<13\/13<a from by omega)with rfl|ha|ha
 .go_wp2_with fail;refine(sR b s k1 d bad1 lg _ _ w1 eP hs sK).mono ?_;rintro e w2 ⟨a2,k2,bad2,rfl,ce,dc,fh,adu,adv,xo⟩;go_wp2_with fail;refine(sR b s k2 d bad2 lg _ _ w2 dc hs xo).mono ?_;rintro e w3 ⟨a3,k3,bad3,rfl,bi,di,nY,adw,adx,uj⟩;go_wp2_with fail;refine(sR b s k3 d bad3 lg _ _ w3 di hs uj).mono ?_;rintro e w4 ⟨a4,k4,bad4,rfl,eb,de,vO,ady,adz,Lt⟩;by_cases h8:a2<8
  .have HF:XX (gj s k bad=(((13*16+a2)*16+a3)*16+a4,k4,bad4)):=Eb aW.o rfl fh.o nY.o vO.o (Or.inr h8);have ar:=((dG.trans ce).trans bi).trans eb;go_wp2_with fail;go_ret;exact⟨CG (by rw[HF.o];try rfl),ar,by rw[HF.o];exact de⟩
  .go_wp2_with fail;refine(uJ b s _ k4 d bad4 lg w4 de hs Lt (by decide)).mono ?_;rintro e w5 ⟨k5,bad5,rfl,dJ,cw,rO,nT⟩;go_wp2_with fail;refine(sR b s k5 d bad5 lg _ _ w5 cw hs nT).mono ?_;rintro e w6 ⟨a6,k6,bad6,rfl,jX,fk,vP,alD,alE,adL⟩;go_wp2_with fail;refine(sR b s k6 d bad6 lg _ _ w6 fk hs adL).mono ?_;rintro e w7 ⟨a7,k7,bad7,rfl,dK,gm,hr7,alF,alG,adM⟩;go_wp2_with fail;refine(sR b s k7 d bad7 lg _ _ w7 gm hs adM).mono ?_;rintro e w8 ⟨a8,k8,bad8,rfl,Hs,nt,Cb,alH,alI,Rm⟩;go_wp2_with fail;refine(sR b s k8 d bad8 lg _ _ w8 nt hs Rm).mono ?_;rintro e w9 ⟨a9,k9,bad9,rfl,BA,adN,hr9,alJ,alK,alM⟩;have HF:XX (gj s k bad=(65536+(((13*16+a2)*16+a3)*16+a4-55296)*1024+(a7-12)*256+a8*16+a9,k9,bad9)):=GS aW.o rfl fh.o nY.o vO.o rfl (by omega) rO.o vP.o hr7.o Cb.o hr9.o;have ar:=((((((((dG.trans ce).trans bi).trans eb).trans dJ).trans jX).trans dK).trans Hs).trans BA)
   go_wp2_with fail;go_ret;exact⟨CG (by rw[HF.o];try rfl),ar,by rw[HF.o];exact adN⟩
 all_goals
  go_wp2_with fail;refine(sR b s k1 d bad1 lg _ _ w1 eP hs sK).mono ?_;rintro e w2 ⟨a2,k2,bad2,rfl,ce,dc,fh,adu,adv,xo⟩;go_wp2_with fail;refine(sR b s k2 d bad2 lg _ _ w2 dc hs xo).mono ?_;rintro e w3 ⟨a3,k3,bad3,rfl,bi,di,nY,adw,adx,uj⟩;go_wp2_with fail;refine(sR b s k3 d bad3 lg _ _ w3 di hs uj).mono ?_;rintro e w4 ⟨a4,k4,bad4,rfl,eb,de,vO,ady,adz,Lt⟩;have HF:XX (gj s k bad=(((a*16+a2)*16+a3)*16+a4,k4,bad4)):=Eb aW.o (by rw[Ze (by omega)]) fh.o nY.o vO.o (Or.inl (by omega));have ar:=((dG.trans ce).trans bi).trans eb;have bj:(a != 13)=true:=by rw[bne_iff_ne];omega
  go_wp2_with fail;go_ret;exact⟨CG (by rw[HF.o];try rfl),ar,by rw[HF.o];exact de⟩
def ud(n:Zc):Zm Zc:=
 if n<128 then[n]else if n<2048 then[192+n/64,128+n%64]else if n<65536 then[224+n/4096,128+n/64%64,128+n%64]
 else[240+n/262144,128+n/4096%64,128+n/64%64,128+n%64]
def jl(n:Zc):Zm Zk:=(ud n).map λi=>Zh i.toNat
theorem mm{i:Zc}(h0:0<=i)(h1:i<256):Zw .u8 ((Zh i.toNat).toNat:Zc)=Zw .u8 i:=by
 congr 1
 rw[Zk.toNat_ofNat'];omega
theorem aca(n:Zc)(w:Zi)(h0:0<=n)(h1:n<1114112):
 Zj prog 218 #[.int .i64 n] w λe w'=>e=.returned (.slice (O ⟨w.heap.size,0,Zf⟩) (jl n).length (jl n).length)/\w'=w.alloc (.cells (bv (jl n)).toArray 5):=by
 rcases(show n<128\/(128<=n/\n<2048)\/(2048<=n/\n<65536)\/65536<=n from by omega)with h|h|h|h
 .have he:jl n=[Zh n.toNat]:=by simp[jl,ud,h]
  have hb:bv (jl n)=[.int .u8 n]:=by rw[he];simp only[bv,Zr,Zt];rw[mm (by omega) (by omega)]
  rw[hb,he];clear hb he;go_enter func218,ntmps218;go_wp2;go_ret;exact⟨rfl,rfl⟩
 .obtain⟨h,h'⟩:=h;have he:jl n=[Zh (192+n/64).toNat,Zh (128+n%64).toNat]:=by simp only[jl,ud];rw[Ze (by omega),Zq h'];rfl
  have hb:bv (jl n)=[.int .u8 (192+n/64),.int .u8 (128+n%64)]:=by rw[he];simp only[bv,Zr,Zt];rw[mm (by omega) (by omega),mm (by omega) (by omega)]
  rw[hb,he];clear hb he;go_enter func218,ntmps218;go_wp2;go_ret;exact⟨rfl,rfl⟩
 .obtain⟨h,h'⟩:=h;have he:jl n=[Zh (224+n/4096).toNat,Zh (128+n/64%64).toNat,Zh (128+n%64).toNat]:=by simp only[jl,ud];rw[Ze (by omega),Ze (by omega),Zq h'];rfl
  have hb:bv (jl n)=[.int .u8 (224+n/4096),.int .u8 (128+n/64%64),.int .u8 (128+n%64)]:=by rw[he];simp only[bv,Zr,Zt];rw[mm (by omega) (by omega),mm (by omega) (by omega),mm (by omega) (by omega)]
  rw[hb,he];clear hb he;go_enter func218,ntmps218;go_wp2;go_ret;exact⟨rfl,rfl⟩
 .have he:jl n=[Zh (240+n/262144).toNat,Zh (128+n/4096%64).toNat,Zh (128+n/64%64).toNat,Zh (128+n%64).toNat]:=by simp only[jl,ud];rw[Ze (by omega),Ze (by omega),Ze (by omega)];rfl
  have hb:bv (jl n)=[.int .u8 (240+n/262144),.int .u8 (128+n/4096%64),.int .u8 (128+n/64%64),.int .u8 (128+n%64)]:=by rw[he];simp only[bv,Zr,Zt];rw[mm (by omega) (by omega),mm (by omega) (by omega),mm (by omega) (by omega),mm (by omega) (by omega)]
  rw[hb,he];clear hb he;go_enter func218,ntmps218;go_wp2;go_ret;exact⟨rfl,rfl⟩
def oM(c:Zc):Zc:=
 if c=34 then 34 else if c=92 then 92 else if c=47 then 47 else if c=98 then 8 else if c=102 then 12 else if c=110 then 10 else if c=114 then 13 else if c=116 then 9 else -1
def cO(s:Zg)(k:Zd):Zm Zk×Zd×Zc:=
 if gb s k=117 then
  let r:=gj s (k+1) (-1)
  if r.2.2<0 then(jl r.1,r.2.1,r.2.2)else([],r.2.1,r.2.2)
 else if 0<=oM (gb s k)then([Zh (oM (gb s k)).toNat],k+1,-1)else([],k,k)
theorem kg(h:bQ s k bad lo hi=(a,k',bad'))(hb:bad'<0):lo<=a/\a<=hi/\bad=bad'/\k'=k+1/\k<s.size:=by
 unfold bQ at h;split at h
 .simp only[Zu]at h;obtain⟨_,_,h3⟩:=h;have:=@Br k bad;omega
 .rename_i hn
  simp only[Zu]at h;obtain⟨h1,h2,h3⟩:=h;have h0:0<=cv s k bad:=by
   rcases Zc.lt_or_le (cv s k bad) 0 with hh|hh
   .have:=Hw hh;omega
   .exact hh
  have:=(qC h0).1;omega
theorem Jk:∀{l:Zm Zk} {k:Zd} {bad:Zc} {k':Zd} {bad':Zc},aQ s k bad l=(k',bad')->bad'<0->bad=bad'/\k'=k+l.length
 |[],k,bad,k',bad',h,hb=>by simp only[aQ,Zu]at h;simp;omega
 |c::cs,k,bad,k',bad',h,hb=>by
  simp only[aQ]at h;split at h
  .have:=Jk h hb;simp;omega
  .simp only[Zu]at h;have:=@Br k bad;omega
theorem GR(hb:(gj s k (-1)).2.2<0):0<=(gj s k (-1)).1/\(gj s k (-1)).1<1114112/\k+4<=(gj s k (-1)).2.1/\(gj s k (-1)).2.1<=s.size/\(gj s k (-1)).2.2=-1/\((gj s k (-1)).1<55296\/57343<(gj s k (-1)).1):=by
 obtain⟨a,k1,b1,h1⟩:∃a k1 b1,bQ s k (-1) 0 15=(a,k1,b1):=⟨_,_,_,rfl⟩
 obtain⟨m,hm⟩:∃m:Zc,m=if a=13 then 11 else 15:=⟨_,rfl⟩
 obtain⟨b,k2,b2,h2⟩:∃b k2 b2,bQ s k1 b1 0 m=(b,k2,b2):=⟨_,_,_,rfl⟩
 obtain⟨c,k3,b3,h3⟩:∃c k3 b3,bQ s k2 b2 0 15=(c,k3,b3):=⟨_,_,_,rfl⟩
 obtain⟨d,k4,b4,h4⟩:∃d k4 b4,bQ s k3 b3 0 15=(d,k4,b4):=⟨_,_,_,rfl⟩
 by_cases hn:a≠13\/b<8
 .rw[Eb h1 hm h2 h3 h4 hn]at hb⊢;simp only at hb⊢;have g4:=kg h4 hb;have g3:=kg h3 (by omega);have g2:=kg h2 (by omega);have g1:=kg h1 (by omega);split at hm <;> omega
 .obtain⟨k5,b5,h5⟩:∃k5 b5,aQ s k4 b4 [92,117]=(k5,b5):=⟨_,_,rfl⟩
  obtain⟨x,k6,b6,h6⟩:∃x k6 b6,bQ s k5 b5 13 13=(x,k6,b6):=⟨_,_,_,rfl⟩
  obtain⟨e,k7,b7,h7⟩:∃e k7 b7,bQ s k6 b6 12 15=(e,k7,b7):=⟨_,_,_,rfl⟩
  obtain⟨f,k8,b8,h8⟩:∃f k8 b8,bQ s k7 b7 0 15=(f,k8,b8):=⟨_,_,_,rfl⟩
  obtain⟨g,k9,b9,h9⟩:∃g k9 b9,bQ s k8 b8 0 15=(g,k9,b9):=⟨_,_,_,rfl⟩
  rw[GS h1 hm h2 h3 h4 (by omega) (by omega) h5 h6 h7 h8 h9]at hb⊢;simp only at hb⊢;have g9:=kg h9 hb;have g8:=kg h8 (by omega);have g7:=kg h7 (by omega);have g6:=kg h6 (by omega);have g5:=Jk h5 (by omega);have g4:=kg h4 (by omega);have g3:=kg h3 (by omega);have g2:=kg h2 (by omega);have g1:=kg h1 (by omega);simp at g5;split at hm <;> omega
theorem acr(b:Zd)(s:Zg)(k:Zd)(d bad:Zc)(lg:Zl)(w:Zi)(hb:w.heap[b]?=O (aq s k d bad lg))(hs:s.size<=1000)(bU:-1<=bad):
 Zj prog 217 #[.pointer (O ⟨b,0,Zf⟩)] w λe w'=>∃n k' bad',e=.returned (.int .i64 n)/\ab b w w'/\w'.heap[b]?=O (aq s k' d bad' lg)/\XX (gj s k bad=(n,k',bad')):=by
 refine(acq b s k d bad lg w hb hs bU).mono ?_;rintro e w' ⟨rfl,h1,h2⟩;exact⟨_,_,_,rfl,h1,h2,rfl⟩
theorem MS(w:Zi)(news:Zm Zk)(t:TypeId):∀j u,(bv news)[j]?=O u->(w.alloc (.cells (bv news).toArray t)).cell? ((⟨w.heap.size,0,Zf⟩:Addr).add j)=O u:=by
 intro j u hj;rw[Addr.add_lit,cell_of_row _ _ _ (bv news).toArray t (0,0) (heap_alloc_new w _)];simpa using hj
theorem cX{W:Zi}{n:Zd}(hW:W.heap.size=n)(x:Zk)(t:TypeId){y:Zc}(hy:(x.toNat:Zc)=y):∀j u,(bv [x])[j]?=O u->(W.alloc (.cells #[.int .u8 y] t)).cell? ((⟨n,0,Zf⟩:Addr).add j)=O u:=by
 subst hW;subst hy;exact cell_one_new W _ t
theorem Qn(m:Zc):(jl m).length<=4:=by
 simp only[jl,Zm.length_map];unfold ud;split
 .simp
 .split
  .simp
  .split <;> simp
theorem UJ(h1:c≠34)(h2:c≠92)(h3:c≠47)(h4:c≠98)(h5:c≠102)(h6:c≠110)(h7:c≠114)(h8:c≠116):oM c=-1:=by
 unfold oM;rw[Ze h1,Ze h2,Ze h3,Ze h4,Ze h5,Ze h6,Ze h7,Ze h8]
theorem Qu{n:Zc}(hc:gb s k=117)(h:gj s (k+1) (-1)=(n,k',bad')):cO s k=(if bad'<0 then jl n else[],k',bad'):=by
 unfold cO;rw[Zq hc,h];simp only;split <;> rfl
theorem vl{u:Zk}(hc:gb s k=c)(h:c≠117)(h0:0<=oM c)(hu:Zh (oM c).toNat=u):cO s k=([u],k+1,-1):=by
 unfold cO;rw[hc,Ze h,Zq h0,hu]
theorem acx(hc:gb s k=c)(h:c≠117)(h0:oM c=-1):cO s k=([],k,(k:Zc)):=by
 unfold cO;rw[hc,Ze h,h0,Ze (by omega)]
theorem acu(b:Zd)(s:Zg)(k:Zd)(d:Zc)(lg:Zl)(w:Zi)(N:Zd)(v:Value)(l:Zm Zk)(hb:w.heap[b]?=O (aq s k d (-1) lg))(hs:s.size<=1000)(am:OB w N v l)(bT:b<N)(hN:N<=w.heap.size)(hl:l.length<=10000)(hc:gb s k=117):
 Zj prog 178 #[.pointer (O ⟨b,0,Zf⟩),v] w λe w'=>∃v',e=.returned v'/\bh N b w w'/\w'.heap[b]?=O (aq s (cO s k).2.1 d (cO s k).2.2 lg)/\OB w' N v' (l++(cO s k).1):=by
 obtain⟨g0,g1,g2,g3,g4,hf⟩:=fS hb;have HB:XX (w.heap[b]?=O (aq s k d (-1) lg)):=hb;have HC:XX (gb s k=117):=hc;have hk:k<s.size:=cC (by omega);clear hb g0 g2 g3 g4 hc;go_enter func178,ntmps178;go_wp2_with (go_at_call 121;refine(dC b s k d (-1) lg _ (by exact HB.o)).mono ?_;rintro e w' ⟨rfl,n,rfl⟩;rw[ct,HC.o])
 refine(acr b s (k+1) d (-1) lg _ (by exact ml (w:=w) HB.o (k+1) (by omega)) hs (by omega)).mono ?_;rintro e w2 ⟨m,k',bad',rfl,ce,dc,hr⟩;have ar:ab b w w2:=ab.trans (((ab.refl b w).setCell _ _).drewN _) ce;have HF:=Qu HC.o hr.o;have dH:=am.kept ar bT;have Hh:=ar.size;obtain⟨c0,c1,c2,c3,c4,l7⟩:=fS dc;clear c0 c1 c2 c4 l7 g1 hf ce;by_cases hneg:bad'<0
 .have hg:=GR (s:=s) (k:=k+1) (by rw[hr.o];exact hneg);rw[hr.o]at hg;simp only at hg;obtain⟨mJ,qI,lu,ET,rfl,hg6⟩:=hg;rw[Zq (by omega)]at HF;have cF:XX (cO s k=(jl m,k',-1)):=HF;have iy:XX (w2.heap[b]?=O (aq s k' d (-1) lg)):=dc;clear HF hr dc hg6;go_wp2_with (first
   |(go_at_call 218;refine(aca m _ mJ qI).mono ?_;rintro e w3 ⟨rfl,rfl⟩)
   |(at_builtin;refine dz rfl (.tmp 28) (.tmp 29) rfl N v l rfl (dH.alloc _) ⟨w2.heap.size,0,Zf⟩ _ _ (jl m) rfl rfl (MS w2 (jl m) 5) ?cl (by simp;omega) ?_))
  case cl=>have:=Qn m;omega
  intro v' w4 aN an;have hB:bh N b w w4:=(((bh.of_but ar hN).alloc (by omega) _)).trans (bh.of_grown an (by simp;omega) dH.below);have de:w4.heap[b]?=O (aq s k' d (-1) lg):=by
   rw[an.block b (by simp;omega) (by intro e;have:=dH.below b e.symm;omega),Zn _ _ _ (by omega)];exact iy.o
  go_wp2;go_ret;exact⟨v',rfl,hB,by rw[cF.o];exact de,by rw[cF.o];exact aN⟩
 .rw[Ze hneg]at HF;have cF:XX (cO s k=([],k',bad')):=HF;have iy:XX (w2.heap[b]?=O (aq s k' d bad' lg)):=dc;clear HF hr dc;go_wp2;go_ret;exact⟨v,rfl,bh.of_but ar hN,by rw[cF.o];exact iy.o,by rw[cF.o,Zv];exact dH⟩
theorem act(b:Zd)(s:Zg)(k:Zd)(d:Zc)(lg:Zl)(w:Zi)(N:Zd)(v:Value)(l:Zm Zk)(hb:w.heap[b]?=O (aq s k d (-1) lg))(hs:s.size<=1000)(am:OB w N v l)(bT:b<N)(hN:N<=w.heap.size)(hl:l.length<=10000)(hc:gb s k≠117)(kN:k<=s.size):
 Zj prog 178 #[.pointer (O ⟨b,0,Zf⟩),v] w λe w'=>∃v',e=.returned v'/\bh N b w w'/\w'.heap[b]?=O (aq s (cO s k).2.1 d (cO s k).2.2 lg)/\OB w' N v' (l++(cO s k).1):=by
 obtain⟨g0,g1,g2,g3,g4,hf⟩:=fS hb;have HB:XX (w.heap[b]?=O (aq s k d (-1) lg)):=hb;obtain⟨c,dx⟩:∃c,c=gb s k:=⟨_,rfl⟩
 have bF:=iN s k;rw[<-dx]at hc bF;have HC:XX (c=gb s k):=dx;clear hb g0 g2 g3 g4 dx;have uk:∀n,ab b w ((w.drewN n).setCell ⟨b,1,Zf⟩ (.int .i64 (k+1))):=λn=>((ab.refl b w).drewN n).setCell _ _
 have qc:∀n,OB ((w.drewN n).setCell ⟨b,1,Zf⟩ (.int .i64 (k+1))) N v l:=λn=>am.kept (uk n) bT
 have oB:XX (∀n,((w.drewN n).setCell ⟨b,1,Zf⟩ (.int .i64 (k+1))).heap[b]?=O (aq s (k+1) d (-1) lg)):=λn=>ml (w:=w.drewN n) HB.o (k+1) (by omega)
 have ed:b<w.heap.size:=by omega
 rcases(show c=34\/c=92\/c=47\/c=98\/c=102\/c=110\/c=114\/c=116\/(c≠34/\c≠92/\c≠47/\c≠98/\c≠102/\c≠110/\c≠114/\c≠116)from by omega)with rfl|rfl|rfl|rfl|rfl|rfl|rfl|rfl|hn
 .have HF:XX (cO s k=([34],k+1,-1)):=vl HC.o.symm hc (by decide) (by decide);clear hc bF;go_enter func178,ntmps178;go_wp2_with (first
   |(go_at_call 121;refine(dC b s k d (-1) lg _ (by exact HB.o)).mono ?_;rintro e w' ⟨rfl,n,rfl⟩;rw[ct,<-HC.o])
   |(at_builtin;refine dz rfl (.tmp 44) (.tmp 47) rfl N v l rfl ?h1 _ _ _ [34] rfl rfl ?h2 ?h3 ?h4 ?_))
  case h1=>exact(qc _).alloc _
  case h2=>exact cX (by simp[Zb,Za]) _ _ rfl
  case h3=>simp;omega
  case h4=>simp[Zb,Za];omega
  intro v' w4 aN an;have hB:bh N b w w4:=((bh.of_but (uk _) hN).alloc (by simp[Zb,Za];omega) _).trans (bh.of_grown an (by simp[Zb,Za];omega) am.below);have de:w4.heap[b]?=O (aq s (k+1) d (-1) lg):=by
   rw[an.block b (by simp[Zb,Za];omega) (by intro e;have:=am.below b e.symm;omega),Zn _ _ _ (by simp[Zb,Za];omega)];exact oB.o _
  clear an;go_wp2;go_ret;exact⟨v',rfl,hB,by rw[HF.o];exact de,by rw[HF.o];exact aN⟩
 .have HF:XX (cO s k=([92],k+1,-1)):=vl HC.o.symm hc (by decide) (by decide);clear hc bF;go_enter func178,ntmps178;go_wp2_with (first
   |(go_at_call 121;refine(dC b s k d (-1) lg _ (by exact HB.o)).mono ?_;rintro e w' ⟨rfl,n,rfl⟩;rw[ct,<-HC.o])
   |(at_builtin;refine dz rfl (.tmp 44) (.tmp 47) rfl N v l rfl ?h1 _ _ _ [92] rfl rfl ?h2 ?h3 ?h4 ?_))
  case h1=>exact(qc _).alloc _
  case h2=>exact cX (by simp[Zb,Za]) _ _ rfl
  case h3=>simp;omega
  case h4=>simp[Zb,Za];omega
  intro v' w4 aN an;have hB:bh N b w w4:=((bh.of_but (uk _) hN).alloc (by simp[Zb,Za];omega) _).trans (bh.of_grown an (by simp[Zb,Za];omega) am.below);have de:w4.heap[b]?=O (aq s (k+1) d (-1) lg):=by
   rw[an.block b (by simp[Zb,Za];omega) (by intro e;have:=am.below b e.symm;omega),Zn _ _ _ (by simp[Zb,Za];omega)];exact oB.o _
  clear an;go_wp2;go_ret;exact⟨v',rfl,hB,by rw[HF.o];exact de,by rw[HF.o];exact aN⟩
 .have HF:XX (cO s k=([47],k+1,-1)):=vl HC.o.symm hc (by decide) (by decide);clear hc bF;go_enter func178,ntmps178;go_wp2_with (first
   |(go_at_call 121;refine(dC b s k d (-1) lg _ (by exact HB.o)).mono ?_;rintro e w' ⟨rfl,n,rfl⟩;rw[ct,<-HC.o])
   |(at_builtin;refine dz rfl (.tmp 44) (.tmp 47) rfl N v l rfl ?h1 _ _ _ [47] rfl rfl ?h2 ?h3 ?h4 ?_))
  case h1=>exact(qc _).alloc _
  case h2=>exact cX (by simp[Zb,Za]) _ _ rfl
  case h3=>simp;omega
  case h4=>simp[Zb,Za];omega
  intro v' w4 aN an;have hB:bh N b w w4:=((bh.of_but (uk _) hN).alloc (by simp[Zb,Za];omega) _).trans (bh.of_grown an (by simp[Zb,Za];omega) am.below);have de:w4.heap[b]?=O (aq s (k+1) d (-1) lg):=by
   rw[an.block b (by simp[Zb,Za];omega) (by intro e;have:=am.below b e.symm;omega),Zn _ _ _ (by simp[Zb,Za];omega)];exact oB.o _
  clear an;go_wp2;go_ret;exact⟨v',rfl,hB,by rw[HF.o];exact de,by rw[HF.o];exact aN⟩
 .have HF:XX (cO s k=([8],k+1,-1)):=vl HC.o.symm hc (by decide) (by decide);clear hc bF;go_enter func178,ntmps178;go_wp2_with (first
   |(go_at_call 121;refine(dC b s k d (-1) lg _ (by exact HB.o)).mono ?_;rintro e w' ⟨rfl,n,rfl⟩;rw[ct,<-HC.o])
   |(at_builtin;refine dz rfl (.tmp 51) (.tmp 52) rfl N v l rfl ?h1 _ _ _ [8] rfl rfl ?h2 ?h3 ?h4 ?_))
  case h1=>exact(qc _).alloc _
  case h2=>exact cX (by simp[Zb,Za]) _ _ rfl
  case h3=>simp;omega
  case h4=>simp[Zb,Za];omega
  intro v' w4 aN an;have hB:bh N b w w4:=((bh.of_but (uk _) hN).alloc (by simp[Zb,Za];omega) _).trans (bh.of_grown an (by simp[Zb,Za];omega) am.below);have de:w4.heap[b]?=O (aq s (k+1) d (-1) lg):=by
   rw[an.block b (by simp[Zb,Za];omega) (by intro e;have:=am.below b e.symm;omega),Zn _ _ _ (by simp[Zb,Za];omega)];exact oB.o _
  clear an;go_wp2;go_ret;exact⟨v',rfl,hB,by rw[HF.o];exact de,by rw[HF.o];exact aN⟩
 .have HF:XX (cO s k=([12],k+1,-1)):=vl HC.o.symm hc (by decide) (by decide);clear hc bF;go_enter func178,ntmps178;go_wp2_with (first
   |(go_at_call 121;refine(dC b s k d (-1) lg _ (by exact HB.o)).mono ?_;rintro e w' ⟨rfl,n,rfl⟩;rw[ct,<-HC.o])
   |(at_builtin;refine dz rfl (.tmp 56) (.tmp 57) rfl N v l rfl ?h1 _ _ _ [12] rfl rfl ?h2 ?h3 ?h4 ?_))
  case h1=>exact(qc _).alloc _
  case h2=>exact cX (by simp[Zb,Za]) _ _ rfl
  case h3=>simp;omega
  case h4=>simp[Zb,Za];omega
  intro v' w4 aN an;have hB:bh N b w w4:=((bh.of_but (uk _) hN).alloc (by simp[Zb,Za];omega) _).trans (bh.of_grown an (by simp[Zb,Za];omega) am.below);have de:w4.heap[b]?=O (aq s (k+1) d (-1) lg):=by
   rw[an.block b (by simp[Zb,Za];omega) (by intro e;have:=am.below b e.symm;omega),Zn _ _ _ (by simp[Zb,Za];omega)];exact oB.o _
  clear an;go_wp2;go_ret;exact⟨v',rfl,hB,by rw[HF.o];exact de,by rw[HF.o];exact aN⟩
 .have HF:XX (cO s k=([10],k+1,-1)):=vl HC.o.symm hc (by decide) (by decide);clear hc bF;go_enter func178,ntmps178;go_wp2_with (first
   |(go_at_call 121;refine(dC b s k d (-1) lg _ (by exact HB.o)).mono ?_;rintro e w' ⟨rfl,n,rfl⟩;rw[ct,<-HC.o])
   |(at_builtin;refine dz rfl (.tmp 61) (.tmp 62) rfl N v l rfl ?h1 _ _ _ [10] rfl rfl ?h2 ?h3 ?h4 ?_))
  case h1=>exact(qc _).alloc _
  case h2=>exact cX (by simp[Zb,Za]) _ _ rfl
  case h3=>simp;omega
  case h4=>simp[Zb,Za];omega
  intro v' w4 aN an;have hB:bh N b w w4:=((bh.of_but (uk _) hN).alloc (by simp[Zb,Za];omega) _).trans (bh.of_grown an (by simp[Zb,Za];omega) am.below);have de:w4.heap[b]?=O (aq s (k+1) d (-1) lg):=by
   rw[an.block b (by simp[Zb,Za];omega) (by intro e;have:=am.below b e.symm;omega),Zn _ _ _ (by simp[Zb,Za];omega)];exact oB.o _
  clear an;go_wp2;go_ret;exact⟨v',rfl,hB,by rw[HF.o];exact de,by rw[HF.o];exact aN⟩
 .have HF:XX (cO s k=([13],k+1,-1)):=vl HC.o.symm hc (by decide) (by decide);clear hc bF;go_enter func178,ntmps178;go_wp2_with (first
   |(go_at_call 121;refine(dC b s k d (-1) lg _ (by exact HB.o)).mono ?_;rintro e w' ⟨rfl,n,rfl⟩;rw[ct,<-HC.o])
   |(at_builtin;refine dz rfl (.tmp 66) (.tmp 67) rfl N v l rfl ?h1 _ _ _ [13] rfl rfl ?h2 ?h3 ?h4 ?_))
  case h1=>exact(qc _).alloc _
  case h2=>exact cX (by simp[Zb,Za]) _ _ rfl
  case h3=>simp;omega
  case h4=>simp[Zb,Za];omega
  intro v' w4 aN an;have hB:bh N b w w4:=((bh.of_but (uk _) hN).alloc (by simp[Zb,Za];omega) _).trans (bh.of_grown an (by simp[Zb,Za];omega) am.below);have de:w4.heap[b]?=O (aq s (k+1) d (-1) lg):=by
   rw[an.block b (by simp[Zb,Za];omega) (by intro e;have:=am.below b e.symm;omega),Zn _ _ _ (by simp[Zb,Za];omega)];exact oB.o _
  clear an;go_wp2;go_ret;exact⟨v',rfl,hB,by rw[HF.o];exact de,by rw[HF.o];exact aN⟩
 .have HF:XX (cO s k=([9],k+1,-1)):=vl HC.o.symm hc (by decide) (by decide);clear hc bF;go_enter func178,ntmps178;go_wp2_with (first
   |(go_at_call 121;refine(dC b s k d (-1) lg _ (by exact HB.o)).mono ?_;rintro e w' ⟨rfl,n,rfl⟩;rw[ct,<-HC.o])
   |(at_builtin;refine dz rfl (.tmp 71) (.tmp 72) rfl N v l rfl ?h1 _ _ _ [9] rfl rfl ?h2 ?h3 ?h4 ?_))
  case h1=>exact(qc _).alloc _
  case h2=>exact cX (by simp[Zb,Za]) _ _ rfl
  case h3=>simp;omega
  case h4=>simp[Zb,Za];omega
  intro v' w4 aN an;have hB:bh N b w w4:=((bh.of_but (uk _) hN).alloc (by simp[Zb,Za];omega) _).trans (bh.of_grown an (by simp[Zb,Za];omega) am.below);have de:w4.heap[b]?=O (aq s (k+1) d (-1) lg):=by
   rw[an.block b (by simp[Zb,Za];omega) (by intro e;have:=am.below b e.symm;omega),Zn _ _ _ (by simp[Zb,Za];omega)];exact oB.o _
  clear an;go_wp2;go_ret;exact⟨v',rfl,hB,by rw[HF.o];exact de,by rw[HF.o];exact aN⟩
 .obtain⟨n1,n2,n3,n4,n5,n6,n7,n8⟩:=hn;have HF:XX (cO s k=([],k,(k:Zc))):=acx HC.o.symm hc (UJ n1 n2 n3 n4 n5 n6 n7 n8);have e0:(c==117)=Zp:=Zo.2 hc;have e1:(c==34)=Zp:=Zo.2 n1;have e2:(c==92)=Zp:=Zo.2 n2;have e3:(c==47)=Zp:=Zo.2 n3;have e4:(c==98)=Zp:=Zo.2 n4;have e5:(c==102)=Zp:=Zo.2 n5;have e6:(c==110)=Zp:=Zo.2 n6;have e7:(c==114)=Zp:=Zo.2 n7;have e8:(c==116)=Zp:=Zo.2 n8;clear n1 n2 n3 n4 n5 n6 n7 n8 hc qc;go_enter func178,ntmps178;go_wp2_with (first
   |(go_at_call 121;refine(dC b s k d (-1) lg _ (by exact HB.o)).mono ?_;rintro e w' ⟨rfl,n,rfl⟩;rw[ct,<-HC.o])
   |(go_at_call 129;refine(ug b s k d lg _ (by exact ml (oB.o _) k rfl)).mono ?_;rintro e w3 ⟨rfl,bi,di⟩))
  go_ret;have ar:ab b w w3:=((uk _).setCell _ _).trans bi;exact⟨v,rfl,bh.of_but ar hN,by rw[HF.o];exact di,by rw[HF.o,Zv];exact am.kept ar bT⟩
theorem acs(b:Zd)(s:Zg)(k:Zd)(d:Zc)(lg:Zl)(w:Zi)(N:Zd)(v:Value)(l:Zm Zk)(hb:w.heap[b]?=O (aq s k d (-1) lg))(hs:s.size<=1000)(am:OB w N v l)(bT:b<N)(hN:N<=w.heap.size)(hl:l.length<=10000)(kN:k<=s.size):
 Zj prog 178 #[.pointer (O ⟨b,0,Zf⟩),v] w λe w'=>∃v',e=.returned v'/\bh N b w w'/\w'.heap[b]?=O (aq s (cO s k).2.1 d (cO s k).2.2 lg)/\OB w' N v' (l++(cO s k).1):=by
 by_cases hc:gb s k=117
 .exact acu b s k d lg w N v l hb hs am bT hN hl hc
 .exact act b s k d lg w N v l hb hs am bT hN hl hc kN
end Go.Proofs.YtdlgkgfeoiohiaaGreatDoor
