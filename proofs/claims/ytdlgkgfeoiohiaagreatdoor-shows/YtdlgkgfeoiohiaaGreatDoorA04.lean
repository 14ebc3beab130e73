/- Part 4. -/
import Derived.Test.YtdlgkgfeoiohiaaGreatDoorA02
open Go.World renaming drewN -> Zc,setCell -> Zd
open List renaming length_append -> Zk
open Nat renaming le_trans -> Zh
open Option renaming some -> Zb
open Or renaming inl -> Zi
open Prod.mk renaming injEq -> Zj
open UInt8 renaming ofNat -> Zg
open _root_ renaming if_neg -> O,Int -> Za,if_pos -> Ze,ByteArray -> Zf,beq_eq_false_iff_ne -> Zl
namespace Go.Proofs.YtdlgkgfeoiohiaaGreatDoor
set_option linter.unusedVariables false
set_option maxHeartbeats 16000000
set_option maxRecDepth 100000
open Go.RowKit J Tryz
variable {s:Zf}{k f k':Nat}{acc:List UInt8}{bad':Za}
def dR(s:Zf):Nat->Nat->List UInt8->List UInt8×Nat×Za
 |0,k,_=>([],k,k)
 |f+1,k,acc=>
  if gb s k=34 then(acc,k+1,-1)else if gb s k<32 then([],k,k)
  else if 127<gb s k then(if(et s k (-1)).2<0 then dR s f (et s k (-1)).1 (acc++(s.extract k (et s k (-1)).1).data.toList)else([],(et s k (-1)).1,(et s k (-1)).2))
  else if gb s k=92 then(if(cO s (k+1)).2.2<0 then dR s f (cO s (k+1)).2.1 (acc++(cO s (k+1)).1)else([],(cO s (k+1)).2.1,(cO s (k+1)).2.2))
  else dR s f (k+1) (acc++[Zg (gb s k).toNat])
def aw(s:Zf)(k:Nat):List UInt8×Nat×Za:=if gb s k=34 then dR s (s.size+1) (k+1) []else([],k,k)
theorem vm{bad lo hi:Za}{a:Za}(h:dw s k bad lo hi=(a,k',bad'))(ik:0<=lo)(hb:bad'<0):lo<=a/\a<=hi/\bad=bad'/\k'=k+1/\k<s.size/\a=gb s k:=by
 unfold dw at h;split at h
 .rename_i hn
  simp only[Zj]at h;obtain⟨h1,h2,h3⟩:=h;have h0:=qC (show 0<=cv s k bad by omega);have:cv s k bad=gb s k:=by unfold cv;rw[O (by omega)]
  omega
 .simp only[Zj]at h;have:=@Br k bad;omega
theorem Cq(hb:(et s k (-1)).2<0):k+2<=(et s k (-1)).1/\(et s k (-1)).1<=s.size/\(et s k (-1)).1<=k+4/\(et s k (-1)).2=-1:=by
 obtain⟨a,k1,b1,h1⟩:∃a k1 b1,dw s k (-1) 194 244=(a,k1,b1):=⟨_,_,_,rfl⟩
 obtain⟨lo,ik⟩:∃lo:Za,lo=if a=240 then 144 else if a=224 then 160 else 128:=⟨_,rfl⟩
 obtain⟨hi,rC⟩:∃hi:Za,hi=if a=244 then 143 else if a=237 then 159 else 191:=⟨_,rfl⟩
 have R4:0<=lo:=by rw[ik];repeat' split <;> omega
 obtain⟨a2,k2,b2,h2⟩:∃a2 k2 b2,dw s k1 b1 lo hi=(a2,k2,b2):=⟨_,_,_,rfl⟩
 rcases(show a<224\/(224<=a/\a<240)\/240<=a from by omega)with ha|⟨ha,Ew⟩|ha
 .have e1:lo=128:=by rw[ik,O (by omega),O (by omega)]
  have e2:hi=191:=by rw[rC,O (by omega),O (by omega)]
  rw[e1,e2]at h2;rw[Iy h1 ha h2]at hb⊢;simp only at hb⊢;have g2:=vm h2 (by omega) hb;have g1:=vm h1 (by omega) (by omega);omega
 .obtain⟨a3,k3,b3,h3⟩:∃a3 k3 b3,dw s k2 b2 128 191=(a3,k3,b3):=⟨_,_,_,rfl⟩
  rw[Fq h1 ha Ew ik rC h2 h3]at hb⊢;simp only at hb⊢;have g3:=vm h3 (by omega) hb;have g2:=vm h2 R4 (by omega);have g1:=vm h1 (by omega) (by omega);omega
 .obtain⟨a3,k3,b3,h3⟩:∃a3 k3 b3,dw s k2 b2 128 191=(a3,k3,b3):=⟨_,_,_,rfl⟩
  obtain⟨a4,k4,b4,h4⟩:∃a4 k4 b4,dw s k3 b3 128 191=(a4,k4,b4):=⟨_,_,_,rfl⟩
  rw[Fp h1 ha ik rC h2 h3 h4]at hb⊢;simp only at hb⊢;have g4:=vm h4 (by omega) hb;have g3:=vm h3 (by omega) (by omega);have g2:=vm h2 R4 (by omega);have g1:=vm h1 (by omega) (by omega);omega
theorem aiz(h:0<=oM (gb s k)):k<s.size:=by
 apply cC
 rcases Za.lt_or_le (gb s k) 0 with hh|hh
 .rw[UJ (by omega) (by omega) (by omega) (by omega) (by omega) (by omega) (by omega) (by omega)]at h;omega
 .exact hh
theorem GT(hb:(cO s k).2.2<0):k<(cO s k).2.1/\(cO s k).2.1<=s.size/\(cO s k).2.2=-1/\(cO s k).1.length<=4:=by
 by_cases hc:gb s k=117
 .rw[Qu hc (show gj s (k+1) (-1)=((gj s (k+1) (-1)).1,(gj s (k+1) (-1)).2.1,(gj s (k+1) (-1)).2.2)from rfl)]at hb⊢;simp only at hb⊢;have:=GR (s:=s) (k:=k+1) hb;rw[Ze hb];have h4:=Qn (gj s (k+1) (-1)).1;omega
 .by_cases h0:0<=oM (gb s k)
  .rw[vl rfl hc h0 rfl]at hb⊢;have:=aiz h0;simp;omega
  .unfold cO at hb;rw[O hc,O h0]at hb;simp at hb;omega
theorem agk(b:Nat)(s:Zf)(k:Nat)(d bad:Za)(lg:Bool)(w:World)(hb:w.heap[b]?=Zb (aq s k d bad lg))(hs:s.size<=1000)(bU:-1<=bad):
 Calls prog 177 #[.pointer (Zb ⟨b,0,none⟩)] w λe w'=>∃k' bad',e=.returned (.tuple #[])/\ab b w w'/\w'.heap[b]?=Zb (aq s k' d bad' lg)/\XX (et s k bad=(k',bad')):=by
 refine(Tp b s k d bad lg w hb hs bU).mono ?_;rintro e w' ⟨rfl,h1,h2⟩;exact⟨_,_,rfl,h1,h2,rfl⟩
theorem ajo(h:gb s k=34):dR s (f+1) k acc=(acc,k+1,-1):=by rw[dR,Ze h]
theorem ajq(h:gb s k<32):dR s (f+1) k acc=([],k,(k:Za)):=by rw[dR,O (by omega),Ze h]
theorem ajr(h:127<gb s k)(hm:et s k (-1)=(k',bad')):dR s (f+1) k acc=if bad'<0 then dR s f k' (acc++(s.extract k k').data.toList)else([],k',bad'):=by
 rw[dR,O (by omega),O (by omega),Ze h,hm]
theorem ajp(h:gb s k=92):dR s (f+1) k acc=if(cO s (k+1)).2.2<0 then dR s f (cO s (k+1)).2.1 (acc++(cO s (k+1)).1)else([],(cO s (k+1)).2.1,(cO s (k+1)).2.2):=by
 rw[dR,O (by omega),O (by omega),O (by omega),Ze h]
theorem ajs(h1:32<=gb s k)(h2:gb s k<=127)(h3:gb s k≠34)(h4:gb s k≠92):dR s (f+1) k acc=dR s f (k+1) (acc++[Zg (gb s k).toNat]):=by
 rw[dR,O h3,O (by omega),O (by omega),O h4]
theorem al{w:World}{b:Nat}{o:Obj}(h:w.heap[b]?=Zb o):b<w.heap.size:=(Array.getElem?_eq_some_iff.1 h).1
theorem ajt(b:Nat)(s:Zf)(k:Nat)(d:Za)(lg:Bool)(w:World)(hb:w.heap[b]?=Zb (aq s k d (-1) lg))(hs:s.size<=1000)(hc:gb s k=34):
 Calls prog 123 #[.pointer (Zb ⟨b,0,none⟩)] w λe w'=>e=.returned (.string ⟨(aw s k).1.toArray⟩)/\ab b w w'/\w'.heap[b]?=Zb (aq s (aw s k).2.1 d (aw s k).2.2 lg):=by
 have hk:k<s.size:=cC (by omega);have bT:=al hb;obtain⟨N,hN⟩:∃N,N=w.heap.size:=⟨_,rfl⟩
 obtain⟨R,hR⟩:∃R,R=aw s k:=⟨_,rfl⟩
 have HR:XX (dR s (s.size+1) (k+1) []=R):=by show _=_;rw[hR,aw,Ze hc]
 rw[<-hR];have HC:XX (gb s k=34):=hc;have HN:XX (N=w.heap.size):=hN;have En:N<=w.heap.size:=by omega
 have ui:b<N:=by omega
 clear hR hc hN;go_enter func123,ntmps123;go_wp2_with fail;refine(uJ b s _ k d (-1) lg w hb hs (by omega) (by decide)).mono ?_;rintro e w1 ⟨k1,bad1,rfl,dG,eP,aW,sK⟩;have hw:aQ s k (-1) [34]=(k+1,-1):=by simp[aQ,ct,HC.o]
 have he:(k1,bad1)=(k+1,(-1:Za)):=aW.o.symm.trans hw;simp only[Zj]at he;obtain⟨rfl,rfl⟩:=he;clear aW hw sK hb;go_wp2_with fail;go_loopg [3] (s.size+1) (λg out wr=>bh N b w wr/\N<=wr.heap.size/\((∃j acc,j<=s.size/\s.size<j+g/\dR s g j acc=R/\wr.heap[b]?=Zb (aq s j d (-1) lg)/\OB wr N out acc/\acc.length<=4*j)\/(∃k' bad',0<=bad'/\R=([],k',bad')/\wr.heap[b]?=Zb (aq s k' d bad' lg))))
 case atStart=>exact⟨bh.of_but dG En,Zh En dG.size,Zi ⟨k+1,[],by omega,by omega,HR.o,eP,OB.nil _ _,by simp⟩⟩
 case round=>
  obtain⟨ba,aH,zE⟩:=hrel;clear eP dG;rcases zE with⟨j,acc,hj,jM,hT,cd,am,az⟩|⟨k',bad',xn,pV,cd⟩
  .obtain⟨f,rfl⟩:∃f,gk=f+1:=⟨gk-1,by omega⟩
   obtain⟨g0,g1,g2,g3,g4,hf⟩:=fS cd;have HB:XX (wr.heap[b]?=Zb (aq s j d (-1) lg)):=cd;have HT:XX (dR s (f+1) j acc=R):=hT;obtain⟨c,dx⟩:∃c,c=gb s j:=⟨_,rfl⟩
   have bF:=iN s j;rw[<-dx]at bF;have lb:XX (c=gb s j):=dx;clear cd hT dx g2 g4;rcases(show c=34\/c<32\/127<c\/c=92\/(32<=c/\c<=127/\c≠34/\c≠92)from by omega)with rfl|h|h|rfl|⟨h1,h2,h3,h4⟩
   .have HF:XX (R=(acc,j+1,-1)):=by show _=_;rw[<-HT.o];exact ajo lb.o.symm
    have nu:j<s.size:=cC (by rw[<-lb.o];omega);have oU:∀n,(convert 49 9 u3).run prog ((wr.drewN n).setCell ⟨b,1,none⟩ (.int .i64 (j+1)))=.ok (.string ⟨acc.toArray⟩) ((wr.drewN n).setCell ⟨b,1,none⟩ (.int .i64 (j+1))):=
     λn=>ua (am.kept (((ab.refl b wr).drewN n).setCell _ _) ui)
    clear bF g0;go_wp2_with (go_at_call 121;refine(dC b s j d (-1) lg _ (by exact HB.o)).mono ?_;rintro e w' ⟨rfl,n,rfl⟩;rw[ct,<-lb.o])
    go_ret;have EA:bh w.heap.size b w wr:=HN.o▸ba;exact⟨by rw[HF.o];rfl,((EA.drewN _).setCell _ _).but,by rw[HF.o];exact ml (w:=wr.drewN _) HB.o (j+1) (by omega)⟩
   .have HF:XX (R=([],j,(j:Za))):=by show _=_;rw[<-HT.o];exact ajq (by rw[<-lb.o];exact h)
    clear g0 am;go_wp2_with (first
     |(go_at_call 121;refine(dC b s j d (-1) lg _ (by exact HB.o)).mono ?_;rintro e w' ⟨rfl,n,rfl⟩;rw[ct,<-lb.o])
     |(go_at_call 129;refine(ug b s j d lg _ (by exact HB.o)).mono ?_;rintro e w3 ⟨rfl,bi,di⟩))
    go_roundg 0
    case measure=>omega
    case rel=>exact⟨(ba.drewN _).trans (bh.of_but bi aH),Zh aH bi.size,Or.inr ⟨j,j,by omega,HF.o,di⟩⟩
   .clear g0;go_wp2_with (first
     |(go_at_call 121;refine(dC b s j d (-1) lg _ (by exact HB.o)).mono ?_;rintro e w' ⟨rfl,n,rfl⟩;rw[ct,<-lb.o])
     |(go_at_call 177;fail))
    refine(agk b s j d (-1) lg _ (by exact HB.o) hs (by omega)).mono ?_;rintro e w3 ⟨k',bad',rfl,bi,di,hm⟩;have HF:XX (R=if bad'<0 then dR s f k' (acc++(s.extract j k').data.toList)else([],k',bad')):=by show _=_;rw[<-HT.o];exact ajr (by rw[<-lb.o];exact h) hm.o
    have dr:bh N b w w3:=(ba.drewN _).trans (bh.of_but bi aH);have eC:N<=w3.heap.size:=Zh aH bi.size;have bz:OB w3 N u3 acc:=am.kept (((ab.refl b wr).drewN _).trans bi) ui;have HM:=hm;clear hm bi g1 g3 hf am;obtain⟨c0,c1,c2,c3,c4,pZ⟩:=fS di;have bo:XX (w3.heap[b]?=Zb (aq s k' d bad' lg)):=di;clear di c2 c4;by_cases hneg:bad'<0
    .have hg:=Cq (s:=s) (k:=j) (by rw[HM.o];exact hneg);rw[HM.o]at hg;simp only at hg;obtain⟨mJ,qI,lu,rfl⟩:=hg;have cF:XX (R=dR s f k' (acc++(s.extract j k').data.toList)):=by show _=_;rw[HF.o,Ze (by omega)]
     have jN:(s.extract j k').size=k'-j:=by simp[Zf.size_extract];omega
     have hjk:j<=k':=by omega
     clear HF HM hneg;go_wp2
     go_region_law (refine aiS rfl _ _ rfl N u3 acc (by rfl) bz (s.extract j k') (by rfl) (by rw[jN];omega) eC ?_;intro v' w4 aN an)
     all_goals
      have kK:bh N b w w3.drew:=⟨dr.os,dr.tape,dr.output,dr.size,dr.block⟩
      have hB:bh N b w w4:=kK.trans (bh.of_grown an eC bz.below);have de:w4.heap[b]?=Zb (aq s k' d (-1) lg):=by
       rw[an.block b (Nat.lt_of_lt_of_le ui eC) (by intro e;have:=bz.below b e.symm;omega)];exact bo.o
      have dk:N<=w4.heap.size:=Zh eC an.size;have aeD:(acc++(s.extract j k').data.toList).length<=4*k':=by
       have h2:(s.extract j k').data.toList.length=k'-j:=jN;rw[Zk,h2];omega
      clear an kK c0 c1 pZ c3 jN;go_wp2;go_roundg f
      case measure=>omega
      case rel=>exact⟨hB,dk,Zi ⟨k',acc++(s.extract j k').data.toList,qI,by omega,cF.o.symm,de,aN,aeD⟩⟩
    .have cF:XX (R=([],k',bad')):=by show _=_;rw[HF.o,O hneg]
     clear HF HM c0 c1 pZ bz;go_wp2;go_roundg 0
     case measure=>omega
     case rel=>exact⟨dr,eC,Or.inr ⟨k',bad',by omega,cF.o,bo.o⟩⟩
   .have nu:j<s.size:=cC (by rw[<-lb.o];omega);have HF:XX (R=if(cO s (j+1)).2.2<0 then dR s f (cO s (j+1)).2.1 (acc++(cO s (j+1)).1)else([],(cO s (j+1)).2.1,(cO s (j+1)).2.2)):=by show _=_;rw[<-HT.o];exact ajp lb.o.symm
    clear g0 bF;go_wp2_with (first
     |(go_at_call 121;refine(dC b s j d (-1) lg _ (by exact HB.o)).mono ?_;rintro e w' ⟨rfl,n,rfl⟩;rw[ct,<-lb.o])
     |(go_at_call 178;refine(acs b s (j+1) d lg _ N u3 acc (by exact ml (w:=wr.drewN _) HB.o (j+1) (by omega)) hs (am.kept (((ab.refl b wr).drewN _).setCell _ _) ui) ui (by simp[Zd,Zc];omega) (by omega) (by omega)).mono ?_;rintro e w3 ⟨v',rfl,dr,di,bz⟩))
    have Rn:bh N b w w3:=((ba.drewN _).setCell _ _).trans dr;have Sz:N<=w3.heap.size:=Zh (by simp[Zd,Zc];omega) dr.size;by_cases hneg:(cO s (j+1)).2.2<0
    .have hg:=GT hneg;obtain⟨mJ,qI,lu,ET⟩:=hg;go_roundg f
     case measure=>omega
     case rel=>exact⟨Rn,Sz,Zi ⟨(cO s (j+1)).2.1,acc++(cO s (j+1)).1,qI,by omega,by rw[HF.o,Ze hneg],by rw[<-lu];exact di,bz,by rw[Zk];omega⟩⟩
    .go_roundg 0
     case measure=>omega
     case rel=>exact⟨Rn,Sz,Or.inr ⟨(cO s (j+1)).2.1,(cO s (j+1)).2.2,by omega,by rw[HF.o,O hneg],di⟩⟩
   .have nu:j<s.size:=cC (by rw[<-lb.o];omega);have HF:XX (R=dR s f (j+1) (acc++[Zg c.toNat])):=by show _=_;rw[<-HT.o,lb.o];exact ajs (by rw[<-lb.o];exact h1) (by rw[<-lb.o];exact h2) (by rw[<-lb.o];exact h3) (by rw[<-lb.o];exact h4)
    have e1:(c==34)=false:=Zl.2 h3;have e2:(c==92)=false:=Zl.2 h4;have qc:∀n,OB ((wr.drewN n).setCell ⟨b,1,none⟩ (.int .i64 (j+1))) N u3 acc:=λn=>am.kept (((ab.refl b wr).drewN n).setCell _ _) ui
    have RA:((Zg c.toNat).toNat:Za)=c:=by rw[UInt8.toNat_ofNat'];omega
    have Wt:XX (((Zg c.toNat).toNat:Za)=c):=RA;clear g0 h3 h4 RA;go_wp2_with (first
     |(go_at_call 121;refine(dC b s j d (-1) lg _ (by exact HB.o)).mono ?_;rintro e w' ⟨rfl,n,rfl⟩;rw[ct,<-lb.o])
     |(at_builtin;refine dz rfl (.tmp 26) (.tmp 29) rfl N u3 acc rfl ?h1 _ _ _ [Zg c.toNat] rfl rfl ?h2 ?h3 ?h4 ?_))
    case h1=>exact(qc _).alloc _
    case h2=>exact cX (by simp[Zd,Zc]) _ _ Wt.o
    case h3=>simp;omega
    case h4=>simp[Zd,Zc];omega
    intro v' w4 aN an;have hB:bh N b w w4:=(((ba.drewN _).setCell _ _).alloc (by simp[Zd,Zc];omega) _).trans (bh.of_grown an (by simp[Zd,Zc];omega) am.below);have de:w4.heap[b]?=Zb (aq s (j+1) d (-1) lg):=by
     rw[an.block b (by simp[Zd,Zc];omega) (by intro e;have:=am.below b e.symm;omega),Below.heap_alloc _ _ _ (by simp[Zd,Zc];omega)];exact ml (w:=wr.drewN _) HB.o (j+1) (by omega)
    have dk:N<=w4.heap.size:=Zh (by simp[Zd,Zc];omega) an.size;clear an;go_wp2;go_roundg f
    case measure=>omega
    case rel=>exact⟨hB,dk,Zi ⟨j+1,acc++[Zg c.toNat],by omega,by omega,HF.o.symm,de,aN,by rw[Zk];simp;omega⟩⟩
  .have ju:XX (0<=bad'):=xn;obtain⟨g0,g1,g2,g3,g4,hf⟩:=fS cd;have AQ:XX (R=([],k',bad')):=pV;have HB:XX (wr.heap[b]?=Zb (aq s k' d bad' lg)):=cd;clear pV cd g0 g1 g2 g4 hf;go_wp2;go_ret;exact⟨by rw[AQ.o];rfl,(HN.o▸ba:bh w.heap.size b w wr).but,by rw[AQ.o];exact HB.o⟩
theorem I9(b:Nat)(s:Zf)(k:Nat)(d:Za)(lg:Bool)(w:World)(hb:w.heap[b]?=Zb (aq s k d (-1) lg))(hs:s.size<=1000):
 Calls prog 123 #[.pointer (Zb ⟨b,0,none⟩)] w λe w'=>e=.returned (.string ⟨(aw s k).1.toArray⟩)/\ab b w w'/\w'.heap[b]?=Zb (aq s (aw s k).2.1 d (aw s k).2.2 lg):=by
 by_cases hc:gb s k=34
 .exact ajt b s k d lg w hb hs hc
 .have HR:aw s k=([],k,(k:Za)):=by rw[aw,O hc]
  rw[HR];have HC:XX (gb s k≠34):=hc;clear hc HR;go_enter func123,ntmps123;go_wp2_with fail;refine(uJ b s _ k d (-1) lg w hb hs (by omega) (by decide)).mono ?_;rintro e w1 ⟨k1,bad1,rfl,dG,eP,aW,sK⟩;have hw:aQ s k (-1) [34]=(k,(k:Za)):=by
   simp only[aQ,ct];rw[O (by simpa using HC.o),rp]
  have he:(k1,bad1)=(k,(k:Za)):=aW.o.symm.trans hw;simp only[Zj]at he;obtain⟨rfl,rfl⟩:=he;clear aW hw sK hb;obtain⟨c0,c1,c2,c3,c4,pZ⟩:=fS eP;have HB:XX (w1.heap[b]?=Zb (aq s k1 d k1 lg)):=eP;clear eP c0 c1 c2 c4 pZ;go_wp2_with fail;refine wp_loop_rounds 1 ?_;rw[rounds_succ];go_wp2;go_ret;exact⟨rfl,dG,HB.o⟩
end Go.Proofs.YtdlgkgfeoiohiaaGreatDoor
