/- Part 5. -/
import Derived.Test.YtdlgkgfeoiohiaaGreatDoorA03
import Derived.Test.YtdlgkgfeoiohiaaGreatDoorA04
open Bool renaming true -> Zg,false -> Zi
open ByteArray renaming size_append -> Zo
open Go.RowKit.Below renaming heap_alloc -> Zn
open Go.World renaming drewN -> Zp,setCell -> Zq
open Option renaming some -> Zb,none -> Zf
open Sum renaming inr -> Zh,inl -> Zm
open _root_ renaming List -> O,Nat -> Za,Int -> Zc,Bool -> Zd,ByteArray -> Ze,if_neg -> Zj,if_pos -> Zk,Except -> Zl,beq_eq_false_iff_ne -> Zr
namespace Go.Proofs.YtdlgkgfeoiohiaaGreatDoor
set_option linter.unusedVariables false
set_option maxHeartbeats 16000000
set_option maxRecDepth 100000
open Go.RowKit J Tryz
variable {α β:Type}{s:Ze}{k k1:Za}{W:World}{o:Obj}
theorem ajh{t1:Zd}(h:wy s k (-1) 45=(t1,k1)):k1=(if gb s k=45 then k+1 else k)/\t1=decide (gb s k=45):=by
 cases t1
 .have:=CL h;rw[ct]at this;rw[Zj this.1];exact⟨this.2,by simp[this.1]⟩
 .have:=CM h;rw[ct]at this;rw[Zk this.1];exact⟨this.2,by simp[this.1]⟩
theorem aE{n:Za}(h:W.heap.size=n):(W.alloc o).heap[n]?=Zb o:=by subst h;exact heap_alloc_new _ _
theorem cj{b:Za}{x:Obj}(h:W.heap[b]?=Zb x):(W.alloc o).heap[b]?=Zb x:=by rw[Zn _ _ _ (al h)];exact h
theorem FJ{c:Zc}{t:Zd}{k':Za}(h:wy s k (-1) c=(t,k'))(hk:k<=s.size)(hc:0<=c):k'<=s.size:=by
 cases t
 .have:=CL h;omega
 .have:=CM h;have:=(qC (s:=s) (k:=k) (bad:=-1) (by omega)).1;omega
theorem Qx(t:Ze)(point:Zc)(w:World)(ht:t.size<=10000)(aC:-2000000<=point)(bb:point<=2000000)(xr:kZ t):
 Calls prog 180 #[.string t,.int .i64 point] w λe w'=>∃q ok,e=.returned (.tuple #[.int .i64 q,.bool ok])/\w=w'/\XX (kI t.data.toList point=if ok then Zb q else Zf)/\XX (ok=Zi->q=0)/\0<=q/\q<=1000000000000000:=by
 refine(acE t point w ht aC bb xr).mono ?_;rintro e w' ⟨rfl,rfl⟩;cases hx:kI t.data.toList point with
 |none=>exact⟨0,Zi,rfl,rfl,rfl,λ_=>rfl,by omega,by omega⟩
 |some q=>
  have:=GX point _ 0 0 q (by omega) (by omega) xr.mem hx;exact⟨q,Zg,rfl,rfl,rfl,λh=>by simp at h,this.1,this.2⟩
theorem TE{R:Option (Option Zc)×Za×Zc}{wh pt:Ze}{k3 k6:Za}{p bad6 q:Zc}{ok:Zd}(hR:R=(Zb (kI ((s.extract k1 k3).data.toList++pt.data.toList) (((k3-k1:Za):Zc)+p)),k6,bad6))(Cl:wh=s.extract k1 k3)(aH:wh.size=k3-k1)
 (hx:kI (wh++pt).data.toList ((wh.size:Zc)+p)=if ok then Zb q else Zf):R=(Zb (if ok then Zb q else Zf),k6,bad6):=by
 rw[hR,<-hx,Ze.data_append,Array.toList_append,Cl,<-Cl,aH]
theorem TG(b:Za)(s:Ze)(k:Za)(d:Zc)(lg:Zd)(w:World)(hb:w.heap[b]?=Zb (aq s k d (-1) lg))(hs:s.size<=1000)(hk:k<=s.size):
 Calls prog 125 #[.pointer (Zb ⟨b,0,Zf⟩)] w λe w'=>∃m,e=.returned (.pointer (Zb ⟨m,0,Zf⟩))/\w.heap.size<=m/\ab b w w'/\w'.heap[b]?=Zb (aq s (dQ s k).2.1 d (dQ s k).2.2 (uB lg (dQ s k).1))/\w'.heap[m]?=Zb (TD (decide (gb s k=45)) (dQ s k).1):=by
 have ed:=al hb;obtain⟨R,hR⟩:∃R,R=dQ s k:=⟨_,rfl⟩
 rw[<-hR];have HR:XX (dQ s k=R):=hR.symm;clear hR;go_enter func125,ntmps125;go_wp2_with fail;refine(CN b s k d (-1) lg 45 w hb hs (by omega) (by omega)).mono ?_;rintro e w1 ⟨t1,k1,rfl,dG,eP,gq⟩;have jD:=ajh gq.o;have dh:=FJ gq.o hk (by omega);have ou:XX (k1=(if gb s k=45 then k+1 else k)):=jD.1;have gv:XX (t1=decide (gb s k=45)):=jD.2;clear jD gq hb;go_wp2_with fail;refine(CN b s k1 d (-1) lg 48 w1 eP hs (by omega) (by omega)).mono ?_;rintro e w2 ⟨t2,k2,rfl,ce,dc,mg⟩;have ek:=FJ mg.o dh (by omega);have Hr:ab b w w2:=dG.trans ce;clear dG eP ce
 go_upto_if 19 with(fail)
 go_cut[4] (λs4 wx=>∃wh k3,s4=.string wh/\ab b w wx/\wx.heap[b]?=Zb (aq s k3 d (-1) lg)/\XX (kz s k1=Zb k3)/\XX (wh=s.extract k1 k3)/\XX (kZ wh)/\k1<k3/\k3<=s.size)
 case first=>
  cases t2
  .have dA:=CL mg.o;rw[ct]at dA;obtain⟨dA,rfl⟩:=dA;have aY:XX (w2.heap[b]?=Zb (aq s k2 d (-1) lg)):=dc;obtain⟨c,hc⟩:∃c,c=gb s k2:=⟨_,rfl⟩
   have bF:=iN s k2;rw[<-hc]at bF dA;have HC:XX (c=gb s k2):=hc;clear dc mg hc;by_cases hd:49<=c/\c<=57
   .obtain⟨EK,BH⟩:=hd;have xr:aK (gb s k2)=Zg:=by rw[<-HC.o];simp[aK];omega
    have wI:XX (aK (gb s k2)=Zg):=xr;clear xr;go_wp2_with (first
     |(go_at_call 121;refine(dC b s k2 d (-1) lg _ (by exact aY.o)).mono ?_;rintro e w' ⟨rfl,n,rfl⟩;rw[ct,<-HC.o])
     |(go_at_call 179;refine(UB b s k2 d lg _ (by exact aY.o) hs wI.o).mono ?_;rintro e w3 ⟨rfl,bi,di⟩))
    go_meet
    case rel=>
     refine⟨_,_,rfl,(Hr.drewN _).trans bi,di,?_,rfl,G0 dh,?_,nK s k2 dh⟩
     .show _=_;rw[kz,Zj (by rw[<-HC.o];omega),wI.o];rfl
     .rw[uG wI.o];have:=qh s (k2+1);omega
   .have HF:XX (R=(Zf,k2,(k2:Zc))):=by
     show _=_;rw[<-HR.o];refine Cu ou.o ?_;rw[kz,Zj (by rw[<-HC.o];omega),Zj];rw[<-HC.o];simp[aK];omega
    rcases(show c<49\/57<c from by omega)with hd|hd
    all_goals
     go_wp2_with (first
      |(go_at_call 121;refine(dC b s k2 d (-1) lg _ (by exact aY.o)).mono ?_;rintro e w' ⟨rfl,n,rfl⟩;rw[ct,<-HC.o])
      |(go_at_call 129;refine(ug b s k2 d lg _ (by exact aY.o)).mono ?_;rintro e w3 ⟨rfl,bi,di⟩)
      |(go_at_call 127;refine(IJ _).mono ?_;rintro e w4 ⟨rfl,rfl⟩))
     go_ret;have hB:=(Hr.drewN _).trans bi;refine⟨_,rfl,hB.size,hB.alloc _,?_,?_⟩
     .rw[HF.o,Zn _ _ _ (al di)];exact di
     .rw[HF.o];exact heap_alloc_new _ _
  .have dA:=CM mg.o;rw[ct]at dA;obtain⟨dA,rfl⟩:=dA;have C0:XX (gb s k1=48):=dA;have aY:XX (w2.heap[b]?=Zb (aq s (k1+1) d (-1) lg)):=dc;clear dA mg dc;go_wp2_with fail;go_meet
   case rel=>exact⟨_,k1+1,rfl,Hr,aY.o,(by show _=_;rw[kz,Zk C0.o]),(QA C0.o).symm,KI,by omega,ek⟩
 case rest=>
  obtain⟨wh,k3,rfl,bi,di,od,Cl,Il,al9,rE⟩:=hcut;clear dc mg Hr ek;have Mt:wh.size=k3-k1:=by rw[Cl.o];simp[Ze.size_extract];omega
  have hwb:wh.size<=1000:=by omega
  have rc:XX (wh.size=k3-k1):=Mt;clear Mt;go_wp2_with fail;refine(CN b s k3 d (-1) lg 46 wc di hs (by omega) (by omega)).mono ?_;rintro e w4 ⟨t4,k4,rfl,eb,de,pl⟩;have oY:=FJ pl.o rE (by omega);have vA:ab b w w4:=bi.trans eb;clear bi di eb
  go_upto_if 35 with(fail)
  go_cut[5] (λs5 wx=>∃pt k5 bad5,s5=.string pt/\ab b w wx/\wx.heap[b]?=Zb (aq s k5 d bad5 lg)/\XX (eZ s k3=(pt,k5,bad5))/\XX (kZ pt)/\pt.size<=1001/\k5<=s.size/\-1<=bad5)
  case first=>
   have bq:XX (w4.heap[b]?=Zb (aq s k4 d (-1) lg)):=de;clear de;cases t4
   .have mD:=CL pl.o;rw[ct]at mD;obtain⟨mD,rfl⟩:=mD;have Av:XX (gb s k4≠46):=mD;clear mD pl;go_wp2_with fail;go_meet
    case rel=>exact⟨_,k4,-1,rfl,vA,bq.o,(by show _=_;rw[eZ,Zj Av.o]),KH,by decide,oY,by omega⟩
   .have mD:=CM pl.o;rw[ct]at mD;obtain⟨mD,rfl⟩:=mD;have Av:XX (gb s k3=46):=mD;clear mD pl;go_wp2_with (go_at_call 179;refine(UA b s (k3+1) d lg _ (by exact bq.o) hs oY).mono ?_;rintro e w5 ⟨l,k5,bad5,rfl,dJ,cw,rO,hd5,hl5,vH,nT⟩)
    go_meet
    case rel=>exact⟨l,k5,bad5,rfl,vA.trans dJ,cw,(by show _=_;rw[eZ,Zk Av.o];exact rO.o),hd5,hl5,vH,nT⟩
  case rest=>
   obtain⟨pt,k5,bad5,rfl,dJ,cw,ny,BW,em,vH,nT⟩:=hcut;clear de pl vA oY;have gM:XX (wc.heap[b]?=Zb (aq s k5 d bad5 lg)):=cw;obtain⟨g0,g1,g2,g3,g4,hf⟩:=fS cw;clear cw g0 g2 g3;obtain⟨c,hc⟩:∃c,c=cv s k5 bad5:=⟨_,rfl⟩
   have bF:=yU s k5 bad5;rw[<-hc]at bF;have HC:XX (c=cv s k5 bad5):=hc;clear hc;have cut:∀(p:Zc) (k6:Za) (bad6:Zc),d9 s k5 bad5=(p,k6,bad6)->R=(Zb (kI ((s.extract k1 k3).data.toList++pt.data.toList) (((k3-k1:Za):Zc)+p)),k6,bad6):=λp k6 bad6 h=>HR.o.symm.trans (rQ ou.o od.o ny.o h)
   have oQ:XX (∀(p:Zc) (k6:Za) (bad6:Zc),d9 s k5 bad5=(p,k6,bad6)->R=(Zb (kI ((s.extract k1 k3).data.toList++pt.data.toList) (((k3-k1:Za):Zc)+p)),k6,bad6)):=cut;clear cut HR od ny ou;rcases(show c=101\/c=69\/(c≠101/\c≠69)from by omega)with rfl|rfl|hn
   case inr.inr=>
    have e1:(c==101)=Zi:=Zr.2 hn.1;have e2:(c==69)=Zi:=Zr.2 hn.2;have HF:=oQ.o 0 k5 bad5 (by rw[d9,Zj (by rw[<-HC.o];omega)]);have cF:XX (R=(Zb (kI ((s.extract k1 k3).data.toList++pt.data.toList) (((k3-k1:Za):Zc)+0)),k5,bad5)):=HF;clear hn oQ HF;go_wp2_with (go_at_call 121;refine(dC b s k5 d bad5 lg _ (by exact gM.o)).mono ?_;rintro e w' ⟨rfl,n,rfl⟩;rw[<-HC.o])
    refine(Qx (wh++pt) _ _ (by rw[Zo];omega) (by omega) (by omega) (Il.o.append BW.o)).mono ?_;rintro e w6 ⟨q,ok,rfl,rfl,hx,hq,BZ,sZ⟩;have eh:XX (R=(Zb (if ok then Zb q else Zf),k5,bad5)):=TE cF.o Cl.o rc.o (by rw[Zc.add_zero];exact hx.o);clear cF hx;cases ok
    .have Mg:q=0:=hq.o rfl;subst Mg;cases t1
     all_goals
      go_wp2_with (go_at_call 181;refine(IK _ _).mono ?_;rintro e w7 ⟨rfl,rfl⟩)
      go_ret;have adP:∀n,((wc.drewN n).setCell ⟨b,4,Zf⟩ (.bool Zg)).heap[b]?=Zb (aq s k5 d bad5 Zg):=λn=>Ux (w:=wc.drewN n) gM.o Zg
      refine⟨_,rfl,?_,((dJ.drewN _).setCell _ _).alloc _,?_,?_⟩
      .exact dJ.size
      .rw[eh.o];exact cj (adP _)
      .rw[eh.o,<-gv.o];exact aE (by simp[Zq,Zp])
    .cases t1
     all_goals
      go_wp2_with (go_at_call 181;refine(IK _ _).mono ?_;rintro e w7 ⟨rfl,rfl⟩)
      go_ret;refine⟨_,rfl,?_,(dJ.drewN _).alloc _,?_,?_⟩
      .exact dJ.size
      .rw[eh.o];exact cj (W:=wc.drewN _) gM.o
      .rw[eh.o,<-gv.o];exact aE (by simp[Zp])
   all_goals
    have ij:=qC (s:=s) (k:=k5) (bad:=bad5) (by rw[<-HC.o];omega);obtain⟨ama,adH⟩:=ij;have adI:bad5=-1:=by omega
    subst adI;have HE:XX (cv s k5 (-1)=101\/cv s k5 (-1)=69):=by show _\/_;rw[<-HC.o];omega
    clear adH nT bF;go_wp2_with (first
     |(go_at_call 121;refine(dC b s k5 d (-1) lg _ (by exact gM.o)).mono ?_;rintro e w' ⟨rfl,n,rfl⟩;rw[<-HC.o])
     |(go_at_call 174;refine(CN b s (k5+1) d (-1) lg 45 _ (by exact ml (w:=wc.drewN _) gM.o (k5+1) (by omega)) hs (by omega) (by omega)).mono ?_;rintro e w6 ⟨t6,k6,rfl,jX,fk,zM⟩;fail))
    refine(CN b s (k5+1) d (-1) lg 45 _ (by exact ml (w:=wc.drewN _) gM.o (k5+1) (by omega)) hs (by omega) (by omega)).mono ?_;rintro e w6 ⟨t6,k6,rfl,jX,fk,zM⟩;have vB:ab b w w6:=((dJ.drewN _).setCell _ _).trans jX;have mO:=FJ zM.o (by omega) (by omega);clear jX g1 g4 hf
    go_upto_if 56 with(fail)
    go_cut[] (λwx=>∃k7,ab b w wx/\wx.heap[b]?=Zb (aq s k7 d (-1) lg)/\XX (k7=(if gb s (k5+1)=45\/gb s (k5+1)=43 then k5+2 else k5+1)/\t6=decide (gb s (k5+1)=45))/\k7<=s.size)
    case first=>
     cases t6
     .have ey:=CL zM.o;rw[ct]at ey;obtain⟨ey,rfl⟩:=ey;have CZ:XX (gb s (k5+1)≠45):=ey;clear ey zM;go_wp2_with (go_at_call 174;refine(CN b s (k5+1) d (-1) lg 43 _ (by exact fk) hs (by omega) (by omega)).mono ?_;rintro e w7 ⟨t7,k7,rfl,dK,gm,qO⟩)
      have xx:=FJ qO.o mO (by omega);go_meet
      case rel=>
       refine⟨k7,vB.trans dK,gm,?_,xx⟩;cases t7
       .have mC:=CL qO.o;rw[ct]at mC;have:=CZ.o;exact⟨by rw[Zj (by omega)];exact mC.2,by simp[this]⟩
       .have mC:=CM qO.o;rw[ct]at mC;have:=CZ.o;exact⟨by rw[Zk (by omega)];omega,by simp[this]⟩
     .have ey:=CM zM.o;rw[ct]at ey;obtain⟨ey,rfl⟩:=ey;have CZ:XX (gb s (k5+1)=45):=ey;clear ey zM;go_wp2_with fail;go_meet
      case rel=>exact⟨k5+1+1,vB,fk,⟨by rw[Zk (Or.inl CZ.o)],by simp[CZ.o]⟩,mO⟩
    case rest=>
     obtain⟨k7,dK,gm,RV,xx⟩:=hcut;clear fk zM vB mO;go_wp2_with (go_at_call 179;refine(UA b s k7 d lg _ (by exact gm) hs xx).mono ?_;rintro e w8 ⟨l,k8,bad8,rfl,Hs,nt,Cb,RC,hl8,lw,Rm⟩)
     have BA:ab b w w8:=dK.trans Hs;obtain⟨g0,g1,g2,g3,g4,hf⟩:=fS nt;have ib:XX (w8.heap[b]?=Zb (aq s k8 d bad8 lg)):=nt;have HX:XX (d9 s k5 (-1)=((if t6 then-iG l.data.toList 0 else iG l.data.toList 0),k8,bad8)):=by
      show _=_;rw[d9,Zk HE.o,<-RV.o.1,Cb.o,RV.o.2];simp
     have E6:=Nl l.data.toList 0 (by omega) (by omega) RC.o.mem;obtain⟨P,hP⟩:∃P,P=iG l.data.toList 0:=⟨_,rfl⟩
     rw[<-hP]at E6;have HP:XX (iG l.data.toList 0=P):=hP.symm;clear gm nt g0 g1 g2 g3 hP dK Hs Cb HE;go_loopg [6,11] l.size (λg pw i wx=>w8=wx/\∃(x:Za) (pv:Zc),x<=l.size/\g=l.size-x/\i=.int .i64 x/\pw=.int .i64 pv/\0<=pv/\pv<=1000000/\iG (l.data.toList.drop x) pv=P)
     case atStart=>exact⟨rfl,0,0,by omega,by omega,rfl,rfl,by omega,by omega,by simpa using HP.o⟩
     case round=>
      obtain⟨rfl,x,pv,hx,hg,rfl,rfl,amv,amw,ur⟩:=hrel;have HG:XX (gk=l.size-x):=hg;have J0:XX (iG (l.data.toList.drop x) pv=P):=ur;clear hg ur;by_cases jN:x<l.size
      .have ls:=RC.o x jN;have ur:=J0.o;rw[KJ l x jN,iG]at ur;have cU:48<=((l[x]'jN).toNat:Zc):=by omega
       have eK:((l[x]'jN).toNat:Zc)<=57:=by omega
       by_cases dj:pv<100000
       .rw[Zk dj]at ur;have HN:XX (iG (l.data.toList.drop (x+1)) (10*pv+(((l[x]'jN).toNat:Zc)-48))=P):=ur;clear ur ls;go_wp2;go_roundg (l.size-(x+1))
        case measure=>rw[HG.o];omega
        case rel=>exact⟨rfl,x+1,_,by omega,rfl,by go_num,rfl,by omega,by omega,HN.o⟩
       .rw[Zj dj]at ur;have HN:XX (iG (l.data.toList.drop (x+1)) pv=P):=ur;clear ur ls;go_wp2;go_roundg (l.size-(x+1))
        case measure=>rw[HG.o];omega
        case rel=>exact⟨rfl,x+1,pv,by omega,rfl,by go_num,rfl,by omega,by omega,HN.o⟩
      .have BX:pv=P:=by
        have:=J0.o;rw[O.drop_eq_nil_of_le (by simp;omega),iG]at this;exact this
       subst BX;clear J0 HG;cases t6
       all_goals
        have cF:=oQ.o _ k8 bad8 HX.o;rw[HP.o]at cF;have eh:XX (R=_):=cF;clear cF oQ HX;go_wp2_with fail;refine(Qx (wh++pt) _ _ (by rw[Zo];omega) (by omega) (by omega) (Il.o.append BW.o)).mono ?_;rintro e w9 ⟨q,ok,rfl,rfl,hx,hq,BZ,sZ⟩;have lW:XX (R=(Zb (if ok then Zb q else Zf),k8,bad8)):=TE eh.o Cl.o rc.o hx.o;clear eh hx;cases ok
        .have Mg:q=0:=hq.o rfl;subst Mg;cases t1
         all_goals
          go_wp2_with (go_at_call 181;refine(IK _ _).mono ?_;rintro e w7 ⟨rfl,rfl⟩)
          go_ret;refine⟨_,rfl,?_,(BA.setCell _ _).alloc _,?_,?_⟩
          .exact BA.size
          .rw[lW.o];exact cj (Ux ib.o Zg)
          .rw[lW.o,<-gv.o];exact aE (by simp[Zq])
        .cases t1
         all_goals
          go_wp2_with (go_at_call 181;refine(IK _ _).mono ?_;rintro e w7 ⟨rfl,rfl⟩)
          go_ret;refine⟨_,rfl,?_,BA.alloc _,?_,?_⟩
          .exact BA.size
          .rw[lW.o];exact cj ib.o
          .rw[lW.o,<-gv.o];exact aE rfl
def fB{K α:Type} [DecidableEq K]:O K->O α->K->α->O α
 |k'::ks,p::ps,k,x=>if k'=k then x::ps else p::fB ks ps k x
 |_,ps,_,x=>ps++[x]
def jP{K:Type} [DecidableEq K]:O K->K->O K
 |[],k=>[k]
 |k'::ks,k=>if k'=k then k'::ks else k'::jP ks k
def Lf:Type:=Unit⊕(Zd⊕(Zc⊕Ze))
def Lf.null:Lf:=Zm ()
def Lf.truth(t:Zd):Lf:=Zh (Zm t)
def Lf.num(n:Zc):Lf:=Zh (Zh (Zm n))
def Lf.str(s:Ze):Lf:=Zh (Zh (Zh s))
def VT:Za->Type
 |0=>Lf
 |n+1=>Lf⊕(O (VT n)⊕(O Ze×O (VT n)))
def VT.leaf:(n:Za)->Lf->VT n
 |0,l=>l
 |n+1,l=>(Zm l:Lf⊕(O (VT n)⊕(O Ze×O (VT n))))
def VT.list{n:Za}(vs:O (VT n)):VT (n+1):=(Zh (Zm vs):Lf⊕(O (VT n)⊕(O Ze×O (VT n))))
def VT.obj{n:Za}(ks:O Ze)(vs:O (VT n)):VT (n+1):=(Zh (Zh (ks,vs)):Lf⊕(O (VT n)⊕(O Ze×O (VT n))))
def iV(s:Ze)(k:Za)(lg:Zd):Zl Za (Lf×Za×Zd):=
 if gb s k=34 then(if(aw s k).2.2<0 then .ok (Lf.str ⟨(aw s k).1.toArray⟩,(aw s k).2.1,lg)else .error (aw s k).2.2.toNat)
 else if gb s k=45\/aK (gb s k)=Zg then
  (if(dQ s k).2.2<0 then .ok (Lf.num (if gb s k=45 then -(((dQ s k).1.getD Zf).getD 0)else((dQ s k).1.getD Zf).getD 0),(dQ s k).2.1,uB lg (dQ s k).1)else .error (dQ s k).2.2.toNat)
 else if gb s k=110 then(if(aQ s k (-1) [110,117,108,108]).2<0 then .ok (Lf.null,(aQ s k (-1) [110,117,108,108]).1,lg)else .error (aQ s k (-1) [110,117,108,108]).2.toNat)
 else if gb s k=102 then(if(aQ s k (-1) [102,97,108,115,101]).2<0 then .ok (Lf.truth Zi,(aQ s k (-1) [102,97,108,115,101]).1,lg)else .error (aQ s k (-1) [102,97,108,115,101]).2.toNat)
 else if gb s k=116 then(if(aQ s k (-1) [116,114,117,101]).2<0 then .ok (Lf.truth Zg,(aQ s k (-1) [116,114,117,101]).1,lg)else .error (aQ s k (-1) [116,114,117,101]).2.toNat)
 else .error k
def gH{α:Type}(item:Za->Zd->Zl Za (α×Za×Zd))(s:Ze):Za->Zd->Za->Zd->O α->Zl Za (O α×Za×Zd)
 |0,_,k,_,_=>.error k
 |f+1,first,k,lg,acc=>
  if gb s k=93 then .ok (acc,k+1,lg)
  else if first=Zi/\gb s k≠44 then .error k
  else match item (if first then k else k+1) lg with
   |.error p=>.error p
   |.ok r=>gH item s f Zi (ak s r.2.1) r.2.2 (acc++[r.1])
def f8{α:Type}(item:Za->Zd->Zl Za (α×Za×Zd))(s:Ze):Za->Zd->Za->Zd->O Ze->O α->Zl Za ((O Ze×O α)×Za×Zd)
 |0,_,k,_,_,_=>.error k
 |f+1,first,k,lg,ks,vs=>
  if gb s k=125 then .ok ((ks,vs),k+1,lg)
  else if first=Zi/\gb s k≠44 then .error k
  else
   let t:=aw s (ak s (if first then k else k+1))
   if 0<=t.2.2 then .error t.2.2.toNat
   else if gb s (ak s t.2.1)≠58 then .error (ak s t.2.1)
   else match item (ak s t.2.1+1) lg with
    |.error p=>.error p
    |.ok r=>f8 item s f Zi (ak s r.2.1) r.2.2 (jP ks ⟨t.1.toArray⟩) (fB ks vs ⟨t.1.toArray⟩ r.1)
def cZ:(n:Za)->Ze->Za->Zd->Zl Za (VT n×Za×Zd)
 |0,s,k,lg=>(iV s (ak s k) lg).map λr=>(VT.leaf 0 r.1,r.2)
 |n+1,s,k,lg=>
  if gb s (ak s k)=91 then(gH (cZ n s) s (s.size+1) Zg (ak s (ak s k+1)) lg []).map λr=>(VT.list r.1,r.2)
  else if gb s (ak s k)=123 then(f8 (cZ n s) s (s.size+1) Zg (ak s (ak s k+1)) lg [] []).map λr=>(VT.obj r.1.1 r.1.2,r.2)
  else(iV s (ak s k) lg).map λr=>(VT.leaf (n+1) r.1,r.2)
def bO{α β:Type}(R:α->β->Prop):O α->O β->Prop
 |[],[]=>True
 |a::us,b::vs=>R a b/\bO R us vs
 |_,_=>False
theorem bO.length{R:α->β->Prop}:∀{us:O α} {vs:O β},bO R us vs->us.length=vs.length
 |[],[],_=>rfl
 |a::us,b::vs,h=>by simp[bO.length h.2]
 |[],b::vs,h=>h.elim
 |a::us,[],h=>h.elim
theorem bO.mono{R S:α->β->Prop}(h:∀a b,R a b->S a b):∀{us:O α} {vs:O β},bO R us vs->bO S us vs
 |[],[],_=>trivial
 |a::us,b::vs,k=>⟨h _ _ k.1,bO.mono h k.2⟩
 |[],b::vs,k=>k.elim
 |a::us,[],k=>k.elim
theorem bO.snoc{R:α->β->Prop}{a:α}{b:β}(eA:R a b):∀{us:O α} {vs:O β},bO R us vs->bO R (us++[a]) (vs++[b])
 |[],[],_=>⟨eA,trivial⟩
 |_::us,_::vs,k=>⟨k.1,bO.snoc eA k.2⟩
 |[],b::vs,k=>k.elim
 |a::us,[],k=>k.elim
theorem bO.put{K:Type} [DecidableEq K]{R:α->β->Prop}{a:α}{b:β}(eA:R a b)(k:K):∀{ks:O K} {us:O α} {vs:O β},ks.length=us.length->bO R us vs->bO R (fB ks us k a) (fB ks vs k b)
 |[],[],[],_,_=>by simp[fB,bO,eA]
 |k'::ks,x::us,y::vs,hl,h=>by
  simp only[fB];split
  .exact⟨eA,h.2⟩
  .exact⟨h.1,bO.put eA k (by simpa using hl) h.2⟩
 |k'::ks,[],vs,hl,h=>by simp at hl
 |[],x::us,vs,hl,h=>by simp at hl
 |_,[],_::_,_,h=>h.elim
 |_,_::_,[],_,h=>h.elim
theorem bO.mem{R:α->β->Prop}:∀{us:O α} {vs:O β},bO R us vs->∀b∈vs,∃a,R a b
 |[],[],_,b,h=>by simp at h
 |a::us,b::vs,k,c,h=>by
  rcases O.mem_cons.1 h with rfl|h
  .exact⟨a,k.1⟩
  .exact bO.mem k.2 c h
 |[],b::vs,k,_,_=>k.elim
 |a::us,[],k,_,_=>k.elim
end Go.Proofs.YtdlgkgfeoiohiaaGreatDoor
