/- Part 23. -/
import Derived.Test.YtdlgkgfeoiohiaaGreatDoorA22
open Bool renaming false -> Zb,true -> Zf,false_eq_true -> ZA
open Go renaming World -> Zi,Value -> Zo,Calls -> Zr
open Go.Calls renaming mono -> Zm
open Go.Exit renaming normal -> ZC
open Go.Region renaming wanted -> ZB
open Go.RowKit.Below renaming heap_alloc -> Zp,heap_setCell -> Zq,refl -> Zz
open Go.Value renaming ownBlock -> Zl,slice -> Zx
open Go.World renaming ownsRow_nil -> Zv,setCell -> Zw,cell? -> ZH
open Go.World.ownsRow renaming alloc -> Zy
open List renaming getElem?_eq_getElem -> ZD,length_append -> ZE
open Nat renaming le_refl -> Zk,lt_or_ge -> ZG
open Option renaming none -> O,some -> Za
open Or renaming inr -> Ze,inl -> Zj
open _root_ renaming Nat -> Zc,List -> Zd,Int -> Zg,ByteArray -> Zh,Except -> Zn,if_pos -> Zt,decide_eq_false -> Zu,beq_eq_false_iff_ne -> ZI
namespace Go.Proofs.YtdlgkgfeoiohiaaGreatDoor
set_option linter.unusedVariables false
set_option maxHeartbeats 16000000
set_option maxRecDepth 100000
open Go.RowKit J Tryz
variable {T:Zd (aj×Zc)}{i g cap b p1 d M nb bad p2 a gk m4 g5 cap5 n:Zc}{V:Zc->Prop}{lsl nsl val:Zo}{inn:bc}{l:Zd Nd}{ps:Zd Zo}{w wr w4 w5 w' w6:Zi}{ks:Zd Zh}{a1 a2 n0 n1 n2:Zg}{s op:Zh}{o:Obj}{s1 s2 i0 i1 i2:Bool}{y:Zd Zh×Zd Nd×Zc}{P:Prop}{thing:Zc->Zn Zc (Zd Zh×Nd×Zc)}{res:Zn Zc (Zd Zh×Zd Nd×Zc)}
def Bj(T:Zd (aj×Zc))(inn:bc):Zc->Zn Zc (Zd Zh×Nd×Zc):=match inn with
 |none=>λ_=>.error 0
 |some f=>ke T f.2
def yS(T:Zd (aj×Zc))(inn:bc)(i:Zc):Zn Zc (Zd Zh×Zd Nd×Zc):=match inn with
 |none=>.error (bE T (i+1))
 |some f=>if ag T (i+2) kq then .ok ([],[],i+2)else dY T (ke T f.2) T.length [] [] (i+2)
theorem abn(h:yS T inn i=.error bad):mx T inn i=.error bad:=by
 cases inn with
 |none=>exact(by injection h with h;subst h;rfl)
 |some f=>
  unfold yS at h;unfold mx;simp only at h⊢;by_cases hc:ag T (i+2) kq=Zf
  .rw[Zt hc]at h;cases h
  .rw[if_neg hc]at h⊢;rw[h]
theorem abp(h:yS T inn i=.ok y):mx T inn i=gY T kq (.mk eX (bE T i) (bp T i).txt [] y.2.1 0 0 0 Zb Zb Zb O) y.2.2:=by
 cases inn with
 |none=>exact(by injection h)
 |some f=>
  unfold yS at h;unfold mx;simp only at h⊢;by_cases hc:ag T (i+2) kq=Zf
  .rw[Zt hc]at h⊢;injection h with h;subst h;unfold gY;simp only;rw[Zt hc]
  .rw[if_neg hc]at h⊢;rw[h]
def FY(V:Zc->Prop)(b g cap:Zc)(T:Zd (aj×Zc))(i d:Zc)(P:Prop)(w:Zi)(nb:Zc)(a:Zc)(s:Zh)(thing:Zc->Zn Zc (Zd Zh×Nd×Zc))(res:Zn Zc (Zd Zh×Zd Nd×Zc))(gh:Zc)(more:Bool)(wr:Zi):Prop:=
 ab b w wr/\nb<wr.heap.size/\∃lsl l ps,wr.heap[nb]?=Za (bH eX a s (.slice O 0 0) lsl 0 0 0 Zb Zb Zb (.pointer O))/\ps.length+gh<=T.length+1 /\
  (
   ((∃j,P/\ax wr V b g cap T j (d+1) (-1)/\mt V w.heap.size nb lsl l ps wr/\i<j/\(if more then dY T thing gh [] l j=res/\T.length<=j+gh else res=.ok ([],l,j)))) \/
   (∃(bad j:Zc),res=.error bad/\(more=Zf->1<=gh)/\ax wr V b g cap T j (d+1) (bad:Zg)/\ao wr 68 lsl ps/\(∀g,lsl.ownBlock=Za g->w.heap.size<=g/\g≠nb)))
theorem PL
 (hBL:b<w.heap.size) (hGL:g<w.heap.size) (hV:∀m,V m->m<w.heap.size) (hVB:∀m,V m->m≠b) (vV:w.heap.size<wr.heap.size) (mL:1<=gk) (em:ps.length+gk<=T.length+1) (aM:ab b w w4) (oc:wr.heap.size<=w4.heap.size)
 (aO:ao wr 68 lsl ps) (am:∀g,lsl.ownBlock=Za g->w.heap.size<=g/\g≠w.heap.size) (cw:w5.heap[w.heap.size]?=Za (bH eX a s (.slice O 0 0) lsl 0 0 0 Zb Zb Zb (.pointer O)))
 (jh:ao w5 68 (.slice (Za ⟨g5,0,O⟩) (ps.length+1) cap5) (ps++[.pointer (Za ⟨m4,0,O⟩)])) (bK:(w4.alloc o).grownBy w5 lsl.ownBlock) (ij:lsl.ownBlock=Za g5\/g5=w4.heap.size+1)
 (fG:w6=w5.setCell ⟨w.heap.size,4,O⟩ (.slice (Za ⟨g5,0,O⟩) (ps.length+1) cap5)) (rM:GE V b g cap T i d P w w.heap.size thing res gk lsl l ps wr m4 w4):
 Zr prog 97 #[.pointer (Za ⟨b,0,O⟩),.string ⟨#[44]⟩] w6 λe w7=>∃B,e=.returned (.bool B)/\XX (FY V b g cap T i d P w w.heap.size a s thing res (gk-1) B w7):=by
 have lq:ab b w w6:=by
  rw[fG];exact np (D0 aM bK (λk hk=>(am k hk).1)) (Zk _)
 have Ck:w4.heap.size+1<=w5.heap.size:=by have:=bK.size;simpa using this
 have xC:∀m,m<w.heap.size->w6.heap[m]?=w4.heap[m]?:=by
  intro m hm;rw[fG,Zq _ _ _ _ (by intro e;have e:m=w.heap.size:=e;omega),bK.block m (by simp;omega) (λe=>by have:=(am m e.symm).1;omega)];exact Zp _ _ _ (by omega)
 have rF:∀j4 bad4,ax w4 V b g cap T j4 (d+1) bad4->ax w6 V b g cap T j4 (d+1) bad4:=λj4 bad4 h=>h.keep (λm o hm ho=>xC m (by rcases hm with rfl|rfl|hm;exact hBL;exact hGL;exact hV m hm))
 have fk:w6.heap[w.heap.size]?=Za (bH eX a s (.slice O 0 0) (.slice (Za ⟨g5,0,O⟩) (ps.length+1) cap5) 0 0 0 Zb Zb Zb (.pointer O)):=by rw[fG];exact IG cw _
 have ut:ao w6 68 (.slice (Za ⟨g5,0,O⟩) (ps.length+1) cap5) (ps++[.pointer (Za ⟨m4,0,O⟩)])/\(∀k,(Zx (Za ⟨g5,0,O⟩) (ps.length+1) cap5).ownBlock=Za k->w.heap.size<=k/\k≠w.heap.size):=by
  have iB:w.heap.size<=g5/\g5≠w.heap.size:=by
   rcases ij with h|h
   .exact am g5 h
   .omega
  refine⟨ao.same jh (λk hk=>?_),λk hk=>?_⟩
  .have e:g5=k:=by simpa[Zl]using hk
   subst e;rw[fG];exact Zq _ _ _ _ (by simpa using iB.2)
  .have e:g5=k:=by simpa[Zl]using hk
   subst e;exact iB
 have fin:∀B w7,ab b w6 w7->((∃y j4,P/\mt V w.heap.size w.heap.size (.slice (Za ⟨g5,0,O⟩) (ps.length+1) cap5) (l++[y]) (ps++[.pointer (Za ⟨m4,0,O⟩)]) w7/\ax w7 V b g cap T j4 (d+1) (-1)/\i<j4/\(if B then dY T thing (gk-1) [] (l++[y]) j4=res/\T.length<=j4+(gk-1)else res=.ok ([],l++[y],j4)))\/(∃(bad j4:Zc),res=.error bad/\B=Zb/\ax w7 V b g cap T j4 (d+1) (bad:Zg)))->FY V b g cap T i d P w w.heap.size a s thing res (gk-1) B w7:=by
  intro B w7 iO Mp;have Ik:w6.heap.size<=w7.heap.size:=iO.size;have zF:w7.heap[w.heap.size]?=_:=(iO.block _ (al fk) (by intro e;injection e with e;omega)).trans fk;rcases Mp with⟨y,j4,h1,h2,h3,h4,h5⟩|⟨bad,j4,h1,h2,h3⟩
  .exact⟨lq.trans iO,al zF,_,l++[y],_,zF,by simp;omega,Zj ⟨j4,h1,h3,h2,h4,h5⟩⟩
  .refine⟨lq.trans iO,al zF,_,l,ps++[.pointer (Za ⟨m4,0,O⟩)],zF,by rw[ZE];simp;omega,Ze ⟨bad,j4,h1,(λ(h:B=Zf)=>by rw[h2]at h;cases h),h3,ao.same ut.1 (λk hk=>iO.block k (ao.lt ut.1 hk) (by intro e;injection e with e;have:=(ut.2 k hk).1;omega)),ut.2⟩⟩
 rcases rM with⟨y,j4,bj,oY,ej,jM,bg,bI,hr⟩|⟨bad,j4,hr,bg⟩
 .have mO:mt V w.heap.size w.heap.size (.slice (Za ⟨g5,0,O⟩) (ps.length+1) cap5) (l++[y]) (ps++[.pointer (Za ⟨m4,0,O⟩)]) w6:=by
   rw[fG];exact oY.app bI vV (λk hk=>ao.lt aO hk) (Zc.le_of_lt vV) hV (Zk _) oc bK jh ij
  refine(kH (rF _ _ bg) ⟨#[44]⟩ (B:=ag T j4 kX) (by simp[kX])).mono ?_;rintro e w7 ⟨rfl,iO,pb⟩;refine⟨_,rfl,fin _ w7 iO (Zj ⟨y,(if ag T j4 kX then j4+1 else j4),bj,mO.but iO hBL hVB,pb,?_,?_⟩)⟩
  .split <;> omega
  .cases hc:ag T j4 kX with
   |true=>rw[hc]at hr;simp at hr⊢;exact⟨hr.symm,by omega⟩
   |false=>rw[hc]at hr;simp at hr⊢;exact hr
 .refine(kH (rF _ _ bg) ⟨#[44]⟩ (B:=Zb) (by rw[Zu (by omega)];rfl)).mono ?_;rintro e w7 ⟨rfl,iO,pb⟩;exact⟨_,rfl,fin _ w7 iO (Ze ⟨bad,j4,hr,rfl,pb⟩)⟩
theorem abM(V:Zc->Prop)(b g cap:Zc)(T:Zd (aj×Zc))(d:Zc)(inn:bc)(hinn:qw V b g cap T d inn)(w:Zi)(i:Zc)(h:ax w V b g cap T i d (-1))(hV:∀m,V m->m<w.heap.size)(hs:ag T (i+1) mX=Zf):
 Zr prog 223 #[.pointer (Za ⟨b,0,O⟩)] w λe w'=>∃p,e=.returned p/\ab b w w' /\
 (
  (∃x j,XX (mx T inn i=.ok (x,j))/\i<=j/\ax w' V b g cap T j d (-1)/\XX (aJ w' (λm=>V m\/w.heap.size<=m) x p)) \/
  (∃(bad:Zc) (j:Zc),XX (mx T inn i=.error bad)/\ax w' V b g cap T j d (bad:Zg)/\XX (gx w' w.heap.size p))):=by
 have aR:XX (b<w.heap.size):=al h.blk;have aV:XX (∀m,V m->m≠b):=h.v;have HV:=aa hV;have kl:=tz h hs;have iJ:XX (g<w.heap.size):=h.rowlt;have az:=h.len;have jL:=h.il;have BG:d<=12:=by
  cases inn with
  |none=>have hd:d=12:=hinn;omega
  |some f=>have:=hinn.1;omega
 obtain⟨g0,g1,g2,g3,gf⟩:=gE h.blk;obtain⟨x,hx⟩:∃x,T[i]?=Za x:=⟨T[i]'jL,ZD jL⟩
 obtain⟨t,at'⟩:=x;obtain⟨q,_,c0,c1,c2,c3,c4⟩:=h.row.cells hx;have aL:=aa (Ao hx);have nN:=aa h;have lX:=aa hinn;have ou:=aa hs;clear h hV hinn hs hx;go_enter func223,ntmps223;go_wp2_with fail
 go_region
 obtain⟨w1,dE⟩:∃w1,w1=(w.alloc (bH eX at' t.txt (.slice O 0 0) (.slice O 0 0) 0 0 0 Zb Zb Zb (.pointer O))).drew:=⟨_,rfl⟩
 change Exit.then _ _ ZC _ (w.alloc (bH eX at' t.txt (.slice O 0 0) (.slice O 0 0) 0 0 0 Zb Zb Zb (.pointer O))).drew
 rw[<-dE];have ae:Below w.heap.size w w1:=by rw[dE];exact(((Zz _ w).alloc (Zk _) _)).drew
 have aC:ax w1 V b g cap T i d (-1):=nN.o.same ae;have R8:w1.heap[w.heap.size]?=Za (bH eX at' t.txt (.slice O 0 0) (.slice O 0 0) 0 0 0 Zb Zb Zb (.pointer O)):=by rw[dE];exact aE rfl
 obtain⟨k0,k1,k2,k3,kf⟩:=gE aC.blk;have Rp:ab b w (w1.setCell ⟨b,1,O⟩ (.int .i64 ((i:Zg)+1))):=((ab.refl b w).of_below ae).setCell _ _;have bb:ax (w1.setCell ⟨b,1,O⟩ (.int .i64 ((i:Zg)+1))) V b g cap T (i+1) d (-1):=aC.to ((ab.refl b w1).setCell _ _) (uf aC.blk (i+1)) (by omega) aC.dl (by omega);have R9:(w1.setCell ⟨b,1,O⟩ (.int .i64 ((i:Zg)+1))).heap[w.heap.size]?=Za (bH eX at' t.txt (.slice O 0 0) (.slice O 0 0) 0 0 0 Zb Zb Zb (.pointer O)):=(Zq _ _ _ _ (by intro e;have e:w.heap.size=b:=e;have:=aR.o;omega)).trans R8;have HD:=aa (Ea lX.o bb kl);have lE:=aa Rp;have OR:=aa R9;clear g0 g1 g2 g3 gf c0 c1 c2 c3 c4 dE ae aC R8 Rp bb R9 k0 k2 k3;go_wp2_with fail;refine Zm HD.o ?_;rintro e w3 ⟨rfl,bi,cP⟩;obtain⟨res,dD⟩:∃res,res=yS T inn i:=⟨_,rfl⟩
 have eY:XX (yS T inn i=res):=dD.symm;have hI:∃j bad,ax w3 V b g cap T j (d+1) bad/\∀B,B=(decide (bad<0)&&ag T (j+0) kq)->FY V b g cap T i d (inn≠O) w w.heap.size at' t.txt (Bj T inn) res T.length (!B) w3:=by
  have di:w3.heap[w.heap.size]?=Za (bH eX at' t.txt (.slice O 0 0) (.slice O 0 0) 0 0 0 Zb Zb Zb (.pointer O)):=(bi.block _ (al OR.o) (by intro e;injection e with e;have:=aR.o;omega)).trans OR.o;cases inn with
  |none=>
   refine⟨_,_,cP.o,λB hB=>?_⟩;have bZ:B=Zb:=by rw[hB,Zu (by omega)];rfl
   subst bZ;exact⟨lE.o.trans bi,al di,_,[],[],di,by simp,Ze ⟨bE T (i+1),_,dD,λ_=>by omega,cP.o,Zv _ _ _ _,λg hg=>by simp[Zl]at hg⟩⟩
  |some f=>
   refine⟨_,_,cP.o,λB hB=>?_⟩;have bZ:B=ag T (i+2) kq:=by rw[hB];simp
   refine⟨lE.o.trans bi,al di,_,[],[],di,by simp,Zj ⟨i+1+1,by simp,cP.o,mt.nil _ _ _ _,by omega,?_⟩⟩;unfold yS at dD;simp only at dD;rw[<-bZ]at dD;cases B
   .simp at dD⊢;first|exact⟨dD.symm,by omega⟩|exact dD.symm
   .simp at dD⊢;exact dD
 obtain⟨j3,bad3,bk,hI⟩:=hI;obtain⟨B3,jW⟩:∃B3,B3=(decide (bad3<0)&&ag T (j3+0) kq):=⟨_,rfl⟩
 have hS:=l6 bk 0 (by omega) kq;rw[<-jW]at hS;have HS:=aa hS;have HI:=aa (hI B3 jW);clear bi cP hI hS jW dD bk k1 kf;go_wp2_with fail;refine Zm HS.o ?_;rintro e w3' ⟨rfl,rfl⟩;go_wp2_with fail;go_loopg [5] T.length (λgh mv wr=>∃more,mv=.bool more/\FY V b g cap T i d (inn≠O) w w.heap.size at' t.txt (Bj T inn) res gh more wr)
 case atStart=>exact⟨_,rfl,HI.o⟩
 case round=>
  obtain⟨more,rfl,aM,md,lsl,l,ps,cd,em,eo⟩:=hrel;have dI:=aa aM;have vV:w.heap.size<=wr.heap.size:=aM.size;cases more
  .have iy:=aa cd;have sC:=aa eo;have EJ:Zr prog 222 #[.pointer (Za ⟨b,0,O⟩),.string ⟨#[41]⟩] wr λe w8=>e=.returned (.tuple #[])/\ab b wr w8/\XX ((∃x j,mx T inn i=.ok (x,j)/\i<=j/\ax w8 V b g cap T j d (-1)/\aJ w8 (λm=>V m\/w.heap.size<=m) x (.pointer (Za ⟨w.heap.size,0,O⟩)))\/(∃(bad j:Zc),mx T inn i=.error bad/\ax w8 V b g cap T j d (bad:Zg))):=by
    rcases sC.o with⟨j,bj,hp,hk,ej,hr⟩|⟨bad,j,hr,mJ,hp,aO,am⟩
    .rw[if_neg (by simp)]at hr;refine(uc hp ⟨#[41]⟩ (B:=ag T j kq) (by simp[kq])).mono ?_;rintro e w8 ⟨rfl,bG,fP⟩;have hL:=abp (eY.o.trans hr);rw[aL.o.1,aL.o.2]at hL;have lw:=hk.but bG aR.o aV.o;have nt:=(bG.block _ md (by intro e;injection e with e;have:=aR.o;omega)).trans iy.o;refine⟨rfl,bG,?_⟩;cases hc:ag T j kq with
     |true=>
      rw[hc]at fP;refine Zj ⟨_,j+1,by rw[hL,gY,hc];rfl,by omega,fP,?_⟩;unfold aJ;refine⟨w.heap.size,_,lsl,ps,O,rfl,Ze (Zk _),nt,⟨Zv _ _ _ _,λg hg=>by simp[Zl]at hg⟩,⟨lw.row,λg hg=>Ze (lw.own g hg).1⟩,cr.keep (λm o hm ho=>⟨rfl,hm.1⟩) _ _ lw.refs,rfl⟩
     |false=>
      rw[hc]at fP;exact Ze ⟨bE T j,j,by rw[hL,gY,hc];rfl,fP⟩
    .refine(uc hp ⟨#[41]⟩ (B:=Zb) (by rw[Zu (by omega)];rfl)).mono ?_;rintro e w8 ⟨rfl,bG,fP⟩;refine⟨rfl,bG,Ze ⟨bad,j,abn (eY.o.trans hr),?_⟩⟩;have vK:¬((bad:Zg)<0):=by omega
     simp only[ZA,if_false,vK]at fP;exact fP
   have i9:=aa EJ;clear aM cd eo HI EJ;go_wp2_with fail;refine Zm i9.o ?_;rintro e w8 ⟨rfl,bG,hf⟩;have ib:=aa bG;have d6:=aa hf.o;have JD:=aa ((bG.block _ md (by intro e;injection e with e;have:=aR.o;omega)).trans iy.o);clear bG hf;go_wp2;go_ret;refine⟨_,rfl,dI.o.trans ib.o,?_⟩;rcases d6.o with⟨x,j,h1,h2,h3,h4⟩|⟨bad,j,h1,h2⟩
   .exact Zj ⟨x,j,h1,h2,h3,h4⟩
   .have hN:gx w8 w.heap.size (.pointer (Za ⟨w.heap.size,0,O⟩)):=⟨w.heap.size,_,_,_,_,_,_,_,_,_,_,_,_,rfl,Zk _,JD.o⟩
    first|exact Ze ⟨bad,j,h1,h2,hN⟩|exact Ze ⟨bad,h1,⟨j,h2⟩,hN⟩
  .have qJ:1<=gk:=by
    rcases eo with⟨j,bj,hp,hk,ej,hr⟩|⟨bad,j,hr,mJ,hp,aO,am⟩
    .rw[Zt rfl]at hr;have:=hp.il;omega
    .exact mJ rfl
   have mL:gk=(gk-1)+1:=by omega
   have aO:ao wr 68 lsl ps/\(∀g,lsl.ownBlock=Za g->w.heap.size<=g/\g≠w.heap.size):=by
    rcases eo with⟨j,bj,hp,hk,ej,hr⟩|⟨bad,j,hr,mJ,hp,aO,am⟩
    .exact⟨hk.row,hk.own⟩
    .exact⟨aO,am⟩
   have fd:Zr prog 97 #[.pointer (Za ⟨b,0,O⟩),.string ⟨#[38]⟩] wr λe wa=>∃B,e=.returned (.bool B)/\ab b wr wa/\XX ((∃j,inn≠O/\ax wa V b g cap T (if B then j+1 else j) (d+1) (-1)/\mt V w.heap.size w.heap.size lsl l ps wa/\i<j/\ag T j eF=B/\dY T (Bj T inn) gk [] l j=res/\T.length<=j+gk)\/(∃(bad j:Zc),res=.error bad/\B=Zb/\ax wa V b g cap T j (d+1) (bad:Zg))):=by
    rcases eo with⟨j,bj,hp,hk,ej,hr⟩|⟨bad,j,hr,mJ,hp,aO,am⟩
    .rw[Zt rfl]at hr;refine(kH hp ⟨#[38]⟩ (B:=ag T j eF) (by simp[eF])).mono ?_;rintro e wa ⟨rfl,vw,Me⟩;exact⟨_,rfl,vw,Zj ⟨j,bj,Me,hk.but vw aR.o aV.o,ej,rfl,hr.1,hr.2⟩⟩
    .refine(kH hp ⟨#[38]⟩ (B:=Zb) (by rw[Zu (by omega)];rfl)).mono ?_;rintro e wa ⟨rfl,vw,Me⟩;exact⟨_,rfl,vw,Ze ⟨bad,j,hr,rfl,Me⟩⟩
   have lh:=aa fd;have dT:=aa aO;have iy:=aa cd;clear fd aO eo aM cd HI;go_wp2_with fail;refine Zm lh.o ?_;rintro e wa ⟨B,rfl,vw,Sw⟩;have xq:Zr prog 59 #[.pointer (Za ⟨b,0,O⟩),.int .i64 0] wa λe w4=>∃m4,e=.returned (.pointer (Za ⟨m4,0,O⟩))/\ab b wa w4/\XX ((∃y j4,inn≠O/\mt V w.heap.size w.heap.size lsl l ps w4/\i<j4/\T.length<=j4+gk/\ax w4 V b g cap T j4 (d+1) (-1)/\aJ w4 (λm=>V m\/wa.heap.size<=m) y (.pointer (Za ⟨m4,0,O⟩)) /\
    res=if ag T j4 kX then dY T (Bj T inn) (gk-1) [] (l++[if B then dn eF [y]else y]) (j4+1)else .ok ([],l++[if B then dn eF [y]else y],j4)) \/
    (∃(bad j4:Zc),res=.error bad/\ax w4 V b g cap T j4 (d+1) (bad:Zg))):=by
    have hwa:wr.heap.size<=wa.heap.size:=vw.size;rcases Sw.o with⟨j,bj,hp,hk,ej,jD,hr,jM⟩|⟨bad,j,hr,hB,hp⟩
    .cases inn with
     |none=>exact absurd rfl bj
     |some f=>
      refine(lX.o.2.2 wa _ hp (λm hm=>by have:=HV.o m hm;omega)).mono ?_;rintro e w4 ⟨p,rfl,ar,cP⟩;have oY:=hk.but ar aR.o aV.o;rw[mL]at hr;rcases cP with⟨y,j4,hy,j5,bg,bI⟩|⟨bad4,j4,hy,bg,bI⟩
      .obtain⟨m4,e4,_⟩:=bI.o.ptr;subst e4;have hj:j<=j4:=by cases B <;> simp at j5 <;> omega
       refine⟨m4,rfl,ar,Zj ⟨y,j4,by simp,oY,by omega,by omega,bg,bI.o,?_⟩⟩;rw[Nz (ks':=[]) (y:=if B then dn eF [y]else y) (k:=j4) (by
        show ke T f.2 j=_;rw[ke,jD];cases B <;> simp at hy⊢ <;> rw[hy.o])]at hr
       exact hr.symm
      .obtain⟨m4,e4,_⟩:=bI.o.ptr;subst e4;refine⟨m4,rfl,ar,Ze ⟨bad4,j4,?_,bg⟩⟩;rw[FD (bad:=bad4) (by
        show ke T f.2 j=_;rw[ke,jD];cases B <;> simp at hy⊢ <;> rw[hy.o])]at hr
       exact hr.symm
    .refine(yX V b g cap T 0 (by omega) wa j (d+1) bad hp (by omega) (by omega)).mono ?_;rintro e w4 ⟨p,rfl,ar,bg,bI⟩;obtain⟨m4,e4,_⟩:=bI.o.ptr;subst e4;exact⟨m4,rfl,ar,Ze ⟨bad,j,hr,bg⟩⟩
   have Da:=aa xq;have yb:=aa vw;have hwa:wr.heap.size<=wa.heap.size:=vw.size;clear xq vw Sw;go_wp2_with fail;refine Zm Da.o ?_;rintro e w4 ⟨m4,rfl,eb,rM⟩;have na:XX (ab b wr w4):=yb.o.trans eb;have yu:=aa rM.o;have oc:wa.heap.size<=w4.heap.size:=eb.size;clear eb rM;have adO:wa.heap[w.heap.size]?=Za (bH eX at' t.txt (.slice O 0 0) lsl 0 0 0 Zb Zb Zb (.pointer O)):=(yb.o.block _ md (by intro e;injection e with e;have:=aR.o;omega)).trans iy.o;have de:w4.heap[w.heap.size]?=Za (bH eX at' t.txt (.slice O 0 0) lsl 0 0 0 Zb Zb Zb (.pointer O)):=(na.o.block _ md (by intro e;injection e with e;have:=aR.o;omega)).trans iy.o;have AN:XX (ao w4 68 lsl ps):=ao.same dT.o.1 (λk hk=>na.o.block k (ao.lt dT.o.1 hk) (by intro e;injection e with e;have:=(dT.o.2 k hk).1;have:=aR.o;omega));have pF:=aa de;obtain⟨c0,c3,c4,cf⟩:=kU de;clear adO de c0 c3;cases B
   .have HO:XX (GE V b g cap T i d (inn≠O) w w.heap.size (Bj T inn) res gk lsl l ps wr m4 w4):=by
     rcases yu.o with⟨y,j4,h1,h2,h3,h4,h5,h6,h7⟩|⟨bad,j4,h1,h2⟩
     .exact Zj ⟨y,j4,h1,h2,h3,h4,h5,aJ.keep (λm o hm ho=>⟨rfl,hm.imp_right λh=>by omega⟩) _ _ h6,by simpa using h7⟩
     .exact Ze ⟨bad,j4,h1,h2⟩
    go_wp2_with (at_builtin;refine pP rfl (.tmp 59) (.tmp 61) 132 68 rfl (.pointer O) 8 zR rfl underlying132 (by decide) lsl ps rfl ?p1 _ _ (.pointer (Za ⟨m4,0,O⟩)) rfl ?p2 rfl ?p3 (w4.heap.size+1) ?p4 ?_)
    case p1=>exact Zy AN.o _
    case p2=>exact my (by simp)
    case p3=>omega
    case p4=>simp
    intro g5 cap5 w5 jh bK ij mP;have E3:Za w.heap.size≠lsl.ownBlock:=λe=>(dT.o.2 _ e.symm).2 rfl
    have cw:w5.heap[w.heap.size]?=Za (bH eX at' t.txt (.slice O 0 0) lsl 0 0 0 Zb Zb Zb (.pointer O)):=(bK.block _ (by simp;omega) E3).trans ((Zp _ _ _ (by omega)).trans pF.o);obtain⟨f0,f3,f4,ff⟩:=kU cw;have Fd:=PL (gk:=gk) aR.o iJ.o HV.o aV.o md qJ em (dI.o.trans na.o) (by omega) dT.o.1 dT.o.2 cw jh bK (ij.imp_right λh=>by first|exact h|(simp;omega)) rfl HO.o;have pL:=aa Fd;clear Fd jh bK ij mP cw f0 f3 c4 cf;go_wp2_with fail;refine Zm pL.o ?_;rintro e w7 ⟨B7,rfl,xk⟩;have Dl:=aa xk.o;clear xk f4 ff;go_wp2;go_roundg (gk-1)
    case measure=>omega
    case rel=>exact⟨B7,rfl,Dl.o⟩
   .have HO:XX (GE V b g cap T i d (inn≠O) w w.heap.size (Bj T inn) res gk lsl l ps wr (w4.heap.size+1) ((w4.alloc (.cells #[.pointer (Za ⟨m4,0,O⟩)] 68)).alloc (bH eF 0 ⟨#[]⟩ (.slice O 0 0) (.slice (Za ⟨w4.heap.size,0,O⟩) 1 1) 0 0 0 Zb Zb Zb (.pointer O)))):=by
     have hbW:ab b w4 ((w4.alloc (.cells #[.pointer (Za ⟨m4,0,O⟩)] 68)).alloc (bH eF 0 ⟨#[]⟩ (.slice O 0 0) (.slice (Za ⟨w4.heap.size,0,O⟩) 1 1) 0 0 0 Zb Zb Zb (.pointer O))):=((ab.refl b w4).alloc _).alloc _;rcases yu.o with⟨y,j4,h1,h2,h3,h4,h5,h6,h7⟩|⟨bad,j4,h1,h2⟩
     .refine Zj ⟨dn eF [y],j4,h1,h2.but hbW aR.o aV.o,h3,h4,(h5.alloc _).alloc _,?_,by simpa using h7⟩;exact IC (n:=w4.heap.size) (ps:=[.pointer (Za ⟨m4,0,O⟩)]) rfl (Ft (aJ.keep (λm o hm ho=>⟨rfl,hm.imp_right λh=>by omega⟩) _ _ h6)) (by simp) (λk hk=>Ze (by omega))
     .exact Ze ⟨bad,j4,h1,(h2.alloc _).alloc _⟩
    have Lw:((w4.alloc (.cells #[.pointer (Za ⟨m4,0,O⟩)] 68)).alloc (bH eF 0 ⟨#[]⟩ (.slice O 0 0) (.slice (Za ⟨w4.heap.size,0,O⟩) 1 1) 0 0 0 Zb Zb Zb (.pointer O))).heap[w.heap.size]?=Za (bH eX at' t.txt (.slice O 0 0) lsl 0 0 0 Zb Zb Zb (.pointer O)):=cj (cj pF.o);obtain⟨d0,d3,d4,df⟩:=kU Lw;have Wn:=aa Lw;have e4:((w4.alloc (.cells #[.pointer (Za ⟨m4,0,O⟩)] 68)).alloc (.cells #[.string ⟨#[38]⟩,.int .i64 0,.string ⟨#[]⟩,.slice O 0 0,.slice (Za ⟨w4.heap.size,0,O⟩) 1 1,.int .i64 0,.int .i64 0,.int .i64 0,.bool Zb,.bool Zb,.bool Zb,.pointer O] 136)).cell? ⟨w.heap.size,4,O⟩=Za lsl:=d4;clear Lw d0 d3 d4 df;go_wp2_with (at_builtin;refine pP rfl (.tmp 59) (.tmp 61) 132 68 rfl (.pointer O) 8 zR rfl underlying132 (by decide) lsl ps rfl ?q1 _ _ (.pointer (Za ⟨w4.heap.size+1,0,O⟩)) rfl ?q2 rfl ?q3 (w4.heap.size+3) ?q4 ?_)
    case q1=>exact Zy (Zy (Zy AN.o _) _) _
    case q2=>exact my (by simp)
    case q3=>omega
    case q4=>simp
    intro g5 cap5 w5 jh bK ij mP;have E3:Za w.heap.size≠lsl.ownBlock:=λe=>(dT.o.2 _ e.symm).2 rfl
    have cw:w5.heap[w.heap.size]?=Za (bH eX at' t.txt (.slice O 0 0) lsl 0 0 0 Zb Zb Zb (.pointer O)):=(bK.block _ (by simp;omega) E3).trans ((Zp _ _ _ (by simp;omega)).trans Wn.o);obtain⟨f0,f3,f4,ff⟩:=kU cw;have Fd:=PL (gk:=gk) aR.o iJ.o HV.o aV.o md qJ em (((dI.o.trans na.o).alloc _).alloc _) (by simp;omega) dT.o.1 dT.o.2 cw jh bK (ij.imp_right λh=>by first|exact h|(simp;omega)) rfl HO.o;have pL:=aa Fd;clear Fd jh bK ij mP cw f0 f3 c4 cf;go_wp2_with fail;refine Zm pL.o ?_;rintro e w7 ⟨B7,rfl,xk⟩;have Dl:=aa xk.o;clear xk f4 ff;go_wp2;go_roundg (gk-1)
    case measure=>omega
    case rel=>exact⟨B7,rfl,Dl.o⟩
def lD(V:Zc->Prop)(b g cap:Zc)(T:Zd (aj×Zc))(i d:Zc)(w:Zi)(r:PR)(e:Ending)(w':Zi):Prop:=
 ∃p,e=.returned p/\ab b w w' /\
  (
   (∃x j,XX (r=.ok (x,j))/\i<=j/\ax w' V b g cap T j d (-1)/\XX (aJ w' (λm=>V m\/w.heap.size<=m) x p)) \/
   (∃(bad:Zc) (j:Zc),XX (r=.error bad)/\ax w' V b g cap T j d (bad:Zg)/\XX (gx w' w.heap.size p)))
theorem lD.from{w1:Zi}{r:PR}{e:Ending}(h:lD V b g cap T i d w1 r e w')(hb:ab b w w1)(hs:w.heap.size<=w1.heap.size):lD V b g cap T i d w r e w':=by
 obtain⟨p,h1,h2,h3⟩:=h;refine⟨p,h1,hb.trans h2,?_⟩;rcases h3 with⟨x,j,a1,a2,a3,a4⟩|⟨bad,j,a1,a2,a3⟩
 .exact Zj ⟨x,j,a1,a2,a3,aJ.keep (λm o hm ho=>⟨rfl,hm.imp_right λh=>by omega⟩) _ _ a4.o⟩
 .exact Ze ⟨bad,j,a1,a2,a3.o.keep (λm o hm ho=>⟨rfl,by omega⟩)⟩
theorem Qs(V:Zc->Prop)(b g cap:Zc)(T:Zd (aj×Zc))(d:Zc)(inn:bc)(hinn:qw V b g cap T d inn)
 (hobj:∀(w:Zi) (i:Zc),ax w V b g cap T i d (-1)->(∀m,V m->m<w.heap.size)->ag T i wu=Zf->Zr prog 224 #[.pointer (Za ⟨b,0,O⟩)] w (lD V b g cap T i d w (oj T inn i))):
 lS 192 #[] V b g cap T d (fR T inn):=by
 intro w i h hV;have aR:XX (b<w.heap.size):=al h.blk;have aV:XX (∀m,V m->m≠b):=h.v;have HV:=aa hV;have az:=h.len;have jL:=h.il;obtain⟨g0,g1,g2,g3,gf⟩:=gE h.blk;obtain⟨x,hx⟩:∃x,T[i]?=Za x:=⟨T[i]'jL,ZD jL⟩
 obtain⟨t,at'⟩:=x;obtain⟨q,_,c0,c1,c2,c3,c4⟩:=h.row.cells hx;have aL:=aa (Ao hx);have tJ:XX (i+1=T.length->t.kind=101\/t.kind=120):=λhe=>h.last i _ hx he
 have nN:=aa h;have lX:=aa hinn;have aac:=aa hobj;have sY:ax (w.alloc (.cells #[.int .u8 0,.int .i64 0,.string ⟨#[]⟩,.int .i64 0,.pointer O] 128)).drew V b g cap T i d (-1):=h.same (((Zz _ w).alloc (Zk _) _)).drew;obtain⟨z0,z1,z2,z3,zf⟩:=gE sY.blk;obtain⟨q',_,y0,y1,y2,y3,y4⟩:=sY.row.cells hx;have E7:q'=q:=by
  have hd:(w.alloc (.cells #[.int .u8 0,.int .i64 0,.string ⟨#[]⟩,.int .i64 0,.pointer O] 128)).drew.cell? ⟨g,i*5+4,O⟩=w.cell? ⟨g,i*5+4,O⟩:=by
   have hg:=h.rowlt;show(w.alloc (.cells #[.int .u8 0,.int .i64 0,.string ⟨#[]⟩,.int .i64 0,.pointer O] 128)).cell? _=_;exact Zi.cell?_of_block (Zp _ _ _ hg)
  rw[hd,c4]at y4;injection y4 with y4;injection y4 with y4;exact y4.symm
 subst E7;clear h hV hinn hx hobj sY;go_enter func192,ntmps192;go_wp2_with fail
 go_region
 obtain⟨w1,dE⟩:∃w1,w1=(w.alloc (.cells #[.int .u8 t.kind,.int .i64 at',.string t.txt,.int .i64 t.num,.pointer q'] 128)).drew:=⟨_,rfl⟩
 change Exit.then _ _ ZC _ (w.alloc (.cells #[.int .u8 t.kind,.int .i64 at',.string t.txt,.int .i64 t.num,.pointer q'] 128)).drew
 rw[<-dE];have ae:Below w.heap.size w w1:=by rw[dE];exact(((Zz _ w).alloc (Zk _) _)).drew
 have aC:ax w1 V b g cap T i d (-1):=nN.o.same ae;have gq:w1.heap[w.heap.size]?=Za (.cells #[.int .u8 t.kind,.int .i64 at',.string t.txt,.int .i64 t.num,.pointer q'] 128 (0,0)):=by rw[dE];exact aE rfl
 have t0:w1.cell? ⟨w.heap.size,0,O⟩=Za (.int .u8 t.kind):=by simp[ZH,gq]
 have t2:w1.cell? ⟨w.heap.size,2,O⟩=Za (.string t.txt):=by simp[ZH,gq]
 have aT:XX (ab b w w1):=(ab.refl b w).of_below ae;have Ms:w.heap.size+1=w1.heap.size:=by rw[dE];simp
 obtain⟨B1,dX⟩:∃B,B=ag T (i+1) mX:=⟨_,rfl⟩
 obtain⟨B2,bZ⟩:∃B,B=ag T i eV:=⟨_,rfl⟩
 obtain⟨B3,jW⟩:∃B,B=ag T i wu:=⟨_,rfl⟩
 have zh:=l6 aC 1 (by omega) mX;have zi:=l6 aC 0 (by omega) eV;have Lj:=l6 aC 0 (by omega) wu;rw[show(decide ((-1:Zg)<0)&&ag T (i+1) mX)=B1 by rw[dX];simp]at zh;rw[show(decide ((-1:Zg)<0)&&ag T (i+0) eV)=B2 by rw[bZ];simp]at zi;rw[show(decide ((-1:Zg)<0)&&ag T (i+0) wu)=B3 by rw[jW];simp]at Lj;have eM:=aa zh;have fj:=aa zi;have jb:=aa Lj;have gU:XX (ag T (i+1) mX=B1):=dX.symm;have dV:XX (ag T i eV=B2):=bZ.symm;have sB:XX (ag T i wu=B3):=jW.symm;have aX:=aa aC;obtain⟨k0,k1,k2,k3,kf⟩:=gE aC.blk;clear g0 g1 g2 g3 gf c0 c1 c2 c3 c4 z0 z1 z2 z3 zf y0 y1 y2 y3 y4 dE ae aC gq dX bZ jW zh zi Lj k0 k2 k3;go_wp2_with fail;refine Zm eM.o ?_;rintro e w1' ⟨rfl,mS⟩;subst mS;go_wp2_with fail;refine Zm fj.o ?_;rintro e w1' ⟨rfl,mS⟩;subst mS;go_wp2_with fail;refine Zm jb.o ?_;rintro e w1' ⟨rfl,mS⟩;subst mS;have ON:XX (i+1=T.length->t.kind=101\/t.kind=120):=tJ.o;by_cases hk:t.kind=119
 .have kl:i+1<T.length:=by
   rcases ZG (i+1) T.length with h|h
   .exact h
   .have:=ON.o (by omega);omega
  have e119:(t.kind==119)=Zf:=beq_iff_eq.2 hk;cases B1
  .have HR:XX (fR T inn i=.ok (tq oP t.txt,i+1)):=by show _=_;unfold fR;rw[aL.o.1,gU.o];simp[hk]
   go_wp2;go_ret;have kL:ab b w1' (w1'.setCell ⟨b,1,O⟩ (.int .i64 ((i:Zg)+1))):=(ab.refl b w1').setCell _ _;refine⟨_,rfl,(aT.o.trans kL).alloc _,Zj ⟨.mk oP 0 t.txt [] [] 0 0 0 Zb Zb Zb O,i+1,HR,by omega,(aX.o.to kL (uf aX.o.blk (i+1)) kl aX.o.dl (by omega)).alloc _,?_⟩⟩;show aJ _ _ _ _;exact Cs (n:=w1'.heap.size) (q:=O) (by simp[Zw]) (Ze (by omega)) rfl
  .have HC:=aa (abM V b g cap T d inn lX.o w1' i aX.o (λm hm=>by have:=HV.o m hm;omega) gU.o);have HR:XX (fR T inn i=mx T inn i):=by show _=_;unfold fR;rw[aL.o.1,gU.o];simp[hk]
   go_wp2_with fail;refine Zm HC.o ?_;intro e w2 h2;have HE:XX (lD V b g cap T i d w (fR T inn i) e w2):=by show lD _ _ _ _ _ _ _ _ _ _ _;rw[HR.o];exact lD.from (w1:=w1') h2 aT.o (by omega)
   obtain⟨p,hp,iR⟩:=HE.o;subst hp;have uV:=aa iR;clear h2 iR HE;go_wp2;go_ret;exact⟨_,rfl,uV.o⟩
 .have e119:(t.kind==119)=Zb:=ZI.2 hk;by_cases hq:t.kind=113
  .have e113:(t.kind==113)=Zf:=beq_iff_eq.2 hq;have kl:i+1<T.length:=by
    rcases ZG (i+1) T.length with h|h
    .exact h
    .have:=ON.o (by omega);omega
   have HR:XX (fR T inn i=.ok (tq oP t.txt,i+1)):=by show _=_;unfold fR;rw[aL.o.1];simp[hq]
   go_wp2;go_ret;have kL:ab b w1' (w1'.setCell ⟨b,1,O⟩ (.int .i64 ((i:Zg)+1))):=(ab.refl b w1').setCell _ _;refine⟨_,rfl,(aT.o.trans kL).alloc _,Zj ⟨.mk oP 0 t.txt [] [] 0 0 0 Zb Zb Zb O,i+1,HR,by omega,(aX.o.to kL (uf aX.o.blk (i+1)) kl aX.o.dl (by omega)).alloc _,?_⟩⟩;show aJ _ _ _ _;exact Cs (n:=w1'.heap.size) (q:=O) (by simp[Zw]) (Ze (by omega)) rfl
  .have e113:(t.kind==113)=Zb:=ZI.2 hq;cases B2
   .cases B3
    .have HR:XX (fR T inn i=.error at'):=by show _=_;unfold fR;rw[aL.o.1,dV.o,sB.o,aL.o.2];simp[hk,hq]
     have iz:=yW aX.o;rw[Zt (by omega),aL.o.2]at iz;have HF:=aa iz;clear iz;go_wp2_with fail;refine Zm HF.o ?_;rintro e w2 ⟨rfl,ce,bb⟩;have gd:=aa bb;have lE:=aa ce;have lO:w1'.heap.size<=w2.heap.size:=ce.size;clear bb ce;go_wp2;go_ret;refine⟨_,rfl,(aT.o.trans lE.o).alloc _,Ze ⟨at',i,HR,gd.o.alloc _,?_⟩⟩;exact⟨w2.heap.size,_,0,_,_,_,0,0,0,Zb,Zb,Zb,_,rfl,by omega,aE rfl⟩
    .have HC:=aa (aac.o w1' i aX.o (λm hm=>by have:=HV.o m hm;omega) sB.o);have HR:XX (fR T inn i=oj T inn i):=by show _=_;unfold fR;rw[aL.o.1,dV.o,sB.o];simp[hk,hq]
     go_wp2_with fail;refine Zm HC.o ?_;intro e w2 h2;have HE:XX (lD V b g cap T i d w (fR T inn i) e w2):=by show lD _ _ _ _ _ _ _ _ _ _ _;rw[HR.o];exact lD.from (w1:=w1') h2 aT.o (by omega)
     obtain⟨p,hp,iR⟩:=HE.o;subst hp;have uV:=aa iR;clear h2 iR HE;go_wp2;go_ret;exact⟨_,rfl,uV.o⟩
   .have kl:i+1<T.length:=tz aX.o dV.o;have HR:XX (fR T inn i=.ok (nH eV,i+1)):=by show _=_;unfold fR;rw[aL.o.1,dV.o];simp[hk,hq]
    go_wp2;go_ret;have kL:ab b w1' (w1'.setCell ⟨b,1,O⟩ (.int .i64 ((i:Zg)+1))):=(ab.refl b w1').setCell _ _;refine⟨_,rfl,(aT.o.trans kL).alloc _,Zj ⟨.mk eV 0 ⟨#[]⟩ [] [] 0 0 0 Zb Zb Zb O,i+1,HR,by omega,(aX.o.to kL (uf aX.o.blk (i+1)) kl aX.o.dl (by omega)).alloc _,?_⟩⟩;show aJ _ _ _ _;exact Cs (n:=w1'.heap.size) (q:=O) (by simp[Zw]) (Ze (by omega)) rfl
theorem NI{ops:Array Oper}{o:Oper}{a:Act}{K:Act->Zi->Prop}{Q:Exit->Act->Zi->Prop}{E:Prop}(hg:o.guard=O)(s x:Operand)(t e:TypeId)
 (fF:o.op=.call { callee:=.builtin .append,args:=#[s,x],argTypes:=#[t,t] }) (z:Zo) (bytes:Zc) (hinfo:(prog.info? e).map (λi=>(i.zero,i.size,i.bytes))=Za (Za z,1,bytes)) (hz:z.cells.size=1)
 (ht:prog.underlying t=Za (.slice e)) (hby:bytes<=64) (v:Zo) (xs:Zd Zo) (hs:a.eval s=v) (am:ao w e v xs) (ad:Addr) (c:Zc) (nv:Zo) (hx:a.eval x=.slice (Za ad) 1 c)
 (hnv:w.cell? (ad.add 0)=Za nv) (h1:nv.oneCell'=Zf) (hl:xs.length<=1000000) (H:Zc) (hH:w.heap.size=H)
 (hK:∀g cap w',ao w' e (.slice (Za ⟨g,0,O⟩) (xs.length+1) cap) (xs++[nv])->w.grownBy w' v.ownBlock->(v.ownBlock=Za g\/g=H)->g<w'.heap.size->K (a.put o.dst (.slice (Za ⟨g,0,O⟩) (xs.length+1) cap)) w'):
 if ZB o (yielded ops a.tmps)=Zf then Oper.wp prog o a w K Q else E:=by
 have hw:ZB o (yielded ops a.tmps)=Zf:=by simp[ZB,hg]
 rw[Zt hw];obtain⟨i0,hi,ip,ee,dP⟩:=info_parts hinfo;have hb:(xs.length+1)*bytes<=140737488355328:=Zc.le_trans (Zc.mul_le_mul (show xs.length+1<=1000001 by omega) hby) (by omega);refine wp_append_lies w s x t fF 0 e i0 z 1 bytes ht hi ip ee dP hz (by decide) v xs.length xs hs am ad 1 c [nv] hx (by simp) ?_ ?_ (by omega) (by unfold maxLen;omega) hb (Zc.zero_le _) H hH ?_
 .intro j u hj
  match j,hj with
  |0,hj=>simp at hj;subst hj;exact hnv
 .intro u hu;simp at hu;subst hu;exact h1
 .intro g cap w' r1 r2 r3 r4;refine hK g cap w' ?_ r2 r3 r4;unfold ao;rw[ZE];exact r1
def M5(T:Zd (aj×Zc))(inn:bc):Zc->Zn Zc (Zd Zh×Nd×Zc):=match inn with
 |none=>λ_=>.error 0
 |some f=>ji T f.2
def wg(T:Zd (aj×Zc))(inn:bc)(i:Zc):Zn Zc (Zd Zh×Zd Nd×Zc):=match inn with
 |none=>.error (bE T i)
 |some f=>dY T (ji T f.2) T.length [] [] (i+1)
theorem agM(h:wg T inn i=.error bad):oj T inn i=.error bad:=by
 cases inn with
 |none=>exact(by injection h with h;subst h;rfl)
 |some f=>unfold wg at h;unfold oj;simp only at h⊢;rw[h]
theorem agO(h:wg T inn i=.ok y):oj T inn i=gY T Ah (.mk fi 0 ⟨#[]⟩ y.1 y.2.1 0 0 0 Zb Zb Zb O) y.2.2:=by
 cases inn with
 |none=>exact(by injection h)
 |some f=>unfold wg at h;unfold oj;simp only at h⊢;rw[h]
structure kD(V:Zc->Prop)(M nb:Zc)(nsl lsl:Zo)(ks:Zd Zh)(l:Zd Nd)(ps:Zd Zo)(wr:Zi):Prop where
 names:ao wr 9 nsl (kv ks)
 row:ao wr 68 lsl ps
 nown:∀g,nsl.ownBlock=Za g->M<=g/\g≠nb/\lsl.ownBlock≠Za g
 own:∀g,lsl.ownBlock=Za g->M<=g/\g≠nb
 refs:cr wr (λm=>(V m\/M<=m)/\m≠nb/\lsl.ownBlock≠Za m/\nsl.ownBlock≠Za m) l ps
theorem kD.nil(V:Zc->Prop)(M nb:Zc)(wr:Zi):kD V M nb (.slice O 0 0) (.slice O 0 0) [] [] [] wr:=
 ⟨Zv _ _ _ _,Zv _ _ _ _,λg hg=>by simp[Zl]at hg,λg hg=>by simp[Zl]at hg,by unfold cr;rfl⟩
theorem kD.keep(h:kD V M nb nsl lsl ks l ps wr)(hk:∀m,m<wr.heap.size->(V m\/M<=m)->m≠nb->w'.heap[m]?=wr.heap[m]?):kD V M nb nsl lsl ks l ps w':=
 ⟨ao.same h.names (λk jo=>hk k (ao.lt h.names jo) (Ze (h.nown k jo).1) (h.nown k jo).2.1),
  ao.same h.row (λk jo=>hk k (ao.lt h.row jo) (Ze (h.own k jo).1) (h.own k jo).2),h.nown,h.own,
  cr.keep (λk o jo ho=>⟨hk k (al ho) jo.1 jo.2.1,jo⟩) _ _ h.refs⟩
theorem kD.but(h:kD V M nb nsl lsl ks l ps wr)(hb:ab b wr w')(hbM:b<M)(hVb:∀m,V m->m≠b):kD V M nb nsl lsl ks l ps w':=
 h.keep (λm hm hv hn=>hb.block m hm (by intro e;injection e with e;rcases hv with h|h;exact hVb m h e;omega))
theorem kD.appN(h:kD V M nb nsl lsl ks l ps w4)
 (hV:∀m,V m->m<M) (L9:nb<w4.heap.size) (hM:M<=w4.heap.size) (an:(w4.alloc o).grownBy w5 nsl.ownBlock) (aO:ao w5 9 (.slice (Za ⟨g,0,O⟩) n cap) (kv ks++[.string s]))
 (hg:nsl.ownBlock=Za g\/g=w4.heap.size+1):kD V M nb (.slice (Za ⟨g,0,O⟩) n cap) lsl (ks++[s]) l ps (w5.setCell ⟨nb,3,O⟩ val):=by
 have iB:M<=g/\g≠nb/\lsl.ownBlock≠Za g:=by
  rcases hg with hg|hg
  .exact h.nown g hg
  .exact⟨by omega,by omega,λe=>by have:=ao.lt h.row e;omega⟩
 have same:∀m,m<w4.heap.size->m≠nb->nsl.ownBlock≠Za m->(w5.setCell ⟨nb,3,O⟩ val).heap[m]?=w4.heap[m]?:=by
  intro m hm hn ho;rw[Zq _ _ _ _ (by simpa using hn),an.block m (by simp;omega) (λe=>ho e.symm)];exact Zp _ _ _ hm
 have bj:∀m,m<w4.heap.size->nsl.ownBlock≠Za m->(Zx (Za ⟨g,0,O⟩) n cap).ownBlock≠Za m:=by
  intro m hm ho e;have e:g=m:=by simpa[Zl]using e
  subst e;rcases hg with hg|hg
  .exact ho hg
  .omega
 refine⟨?_,?_,?_,h.own,?_⟩
 .have:kv (ks++[s])=kv ks++[.string s]:=by simp[kv]
  rw[this];refine ao.same aO (λk hk=>?_);have e:g=k:=by simpa[Zl]using hk
  subst e;exact Zq _ _ _ _ (by simpa using iB.2.1)
 .exact ao.same h.row (λk hk=>same k (ao.lt h.row hk) (h.own k hk).2 (λe=>(h.nown k e).2.2 hk))
 .intro k hk;have e:g=k:=by simpa[Zl]using hk
  subst e;exact iB
 .refine cr.keep (λk o' hk ho=>⟨same k (al ho) hk.2.1 hk.2.2.2,hk.1,hk.2.1,hk.2.2.1,bj k (al ho) hk.2.2.2⟩) _ _ h.refs
theorem kD.appL{M4:Zc}{y:Nd}{p:Zo}(h:kD V M nb nsl lsl ks l ps w4)(hy:aJ w4 (λm=>(V m\/M4<=m)/\lsl.ownBlock≠Za m/\nsl.ownBlock≠Za m) y p)
 (h1:nb<M4) (h3:M<=M4) (hV:∀m,V m->m<M) (h4:M<=nb) (h5:M4<=w4.heap.size) (an:(w4.alloc o).grownBy w5 lsl.ownBlock) (aO:ao w5 68 (.slice (Za ⟨g,0,O⟩) n cap) (ps++[p]))
 (hg:lsl.ownBlock=Za g\/g=w4.heap.size+1):kD V M nb nsl (.slice (Za ⟨g,0,O⟩) n cap) ks (l++[y]) (ps++[p]) (w5.setCell ⟨nb,4,O⟩ val):=by
 have iB:M<=g/\g≠nb/\nsl.ownBlock≠Za g:=by
  rcases hg with hg|hg
  .exact⟨(h.own g hg).1,(h.own g hg).2,λe=>(h.nown g e).2.2 hg⟩
  .exact⟨by omega,by omega,λe=>by have:=ao.lt h.names e;omega⟩
 have same:∀m,m<w4.heap.size->m≠nb->lsl.ownBlock≠Za m->(w5.setCell ⟨nb,4,O⟩ val).heap[m]?=w4.heap[m]?:=by
  intro m hm hn ho;rw[Zq _ _ _ _ (by simpa using hn),an.block m (by simp;omega) (λe=>ho e.symm)];exact Zp _ _ _ hm
 have bj:∀m,m<w4.heap.size->lsl.ownBlock≠Za m->(Zx (Za ⟨g,0,O⟩) n cap).ownBlock≠Za m:=by
  intro m hm ho e;have e:g=m:=by simpa[Zl]using e
  subst e;rcases hg with hg|hg
  .exact ho hg
  .omega
 refine⟨?_,?_,?_,?_,cr.snoc (aJ.keep ?_ _ _ hy) (cr.keep ?_ _ _ h.refs)⟩
 .exact ao.same h.names (λk hk=>same k (ao.lt h.names hk) (h.nown k hk).2.1 (h.nown k hk).2.2)
 .refine ao.same aO (λk hk=>?_);have e:g=k:=by simpa[Zl]using hk
  subst e;exact Zq _ _ _ _ (by simpa using iB.2.1)
 .intro k hk;refine⟨(h.nown k hk).1,(h.nown k hk).2.1,bj k (ao.lt h.names hk) (h.nown k hk).2.2⟩
 .intro k hk;have e:g=k:=by simpa[Zl]using hk
  subst e;exact⟨iB.1,iB.2.1⟩
 .intro m o' hm ho;have vJ:=al ho;have Ia:m≠nb:=by
   rcases hm.1 with h|h
   .have:=hV m h;omega
   .omega
  exact⟨same m vJ Ia hm.2.1,hm.1.imp_right λh=>by omega,Ia,bj m vJ hm.2.1,hm.2.2⟩
 .intro m o' hm ho;have vJ:=al ho;exact⟨same m vJ hm.2.1 hm.2.2.1,hm.1,hm.2.1,bj m vJ hm.2.2.1,hm.2.2.2⟩
theorem TA{v:Zo}(hb:w.heap[nb]?=Za (bH op a s nsl lsl n0 n1 n2 i0 i1 i2 v))(nsl':Zo):
 (w.setCell ⟨nb,3,O⟩ nsl').heap[nb]?=Za (bH op a s nsl' lsl n0 n1 n2 i0 i1 i2 v):=cY hb _
def FZ(V:Zc->Prop)(b g cap:Zc)(T:Zd (aj×Zc))(i d:Zc)(P:Prop)(w:Zi)(nb:Zc)(thing:Zc->Zn Zc (Zd Zh×Nd×Zc))(res:Zn Zc (Zd Zh×Zd Nd×Zc))(gh:Zc)(more:Bool)(wr:Zi):Prop:=
 ab b w wr/\nb<wr.heap.size/\∃nsl lsl ks l ps,wr.heap[nb]?=Za (bH fi 0 ⟨#[]⟩ nsl lsl 0 0 0 Zb Zb Zb (.pointer O))/\ps.length+gh<=T.length+1/\ks.length=ps.length /\
  (
   ((∃j,P/\ax wr V b g cap T j (d+1) (-1)/\kD V w.heap.size nb nsl lsl ks l ps wr/\i<j/\(if more then dY T thing gh ks l j=res/\T.length<=j+gh else res=.ok (ks,l,j)))) \/
   (∃(bad j:Zc),res=.error bad/\ax wr V b g cap T j (d+1) (bad:Zg)))
theorem afu:(prog.info? 9).map (λi=>(i.zero,i.size,i.bytes))=Za (Za (.string ⟨#[]⟩),1,16):=by kernel_rfl
def F0(V:Zc->Prop)(b g cap:Zc)(T:Zd (aj×Zc))(i d:Zc)(w:Zi)(r:PR)(p:Zo)(w':Zi):Prop:=
 (∃x j,XX (r=.ok (x,j))/\i<=j/\ax w' V b g cap T j d (-1)/\XX (aJ w' (λm=>V m\/w.heap.size<=m) x p)) \/
  (∃(bad:Zc) (j:Zc),XX (r=.error bad)/\ax w' V b g cap T j d (bad:Zg)/\XX (gx w' w.heap.size p))
theorem M6
 (hBL:b<w.heap.size) (hVB:∀m,V m->m≠b) (md:w.heap.size<wr.heap.size) (cd:wr.heap[w.heap.size]?=Za (bH fi 0 ⟨#[]⟩ nsl lsl 0 0 0 Zb Zb Zb (.pointer O)))
 (eo:(∃j,ax wr V b g cap T j (d+1) (-1)/\kD V w.heap.size w.heap.size nsl lsl ks l ps wr/\i<j/\wg T inn i=.ok (ks,l,j))\/(∃(bad j:Zc),wg T inn i=.error bad/\ax wr V b g cap T j (d+1) (bad:Zg))):
 Zr prog 222 #[.pointer (Za ⟨b,0,O⟩),.string ⟨#[125]⟩] wr λe w8=>e=.returned (.tuple #[])/\ab b wr w8/\XX (F0 V b g cap T i d w (oj T inn i) (.pointer (Za ⟨w.heap.size,0,O⟩)) w8):=by
 have nt:∀w8,ab b wr w8->w8.heap[w.heap.size]?=Za (bH fi 0 ⟨#[]⟩ nsl lsl 0 0 0 Zb Zb Zb (.pointer O)):=λw8 bG=>(bG.block _ md (by intro e;injection e with e;omega)).trans cd
 have hN:∀w8,ab b wr w8->gx w8 w.heap.size (.pointer (Za ⟨w.heap.size,0,O⟩)):=λw8 bG=>⟨w.heap.size,_,_,_,_,_,_,_,_,_,_,_,_,rfl,Zk _,nt w8 bG⟩
 rcases eo with⟨j,hp,hk,ej,hr⟩|⟨bad,j,hr,hp⟩
 .refine(uc hp ⟨#[125]⟩ (B:=ag T j Ah) (by simp[Ah])).mono ?_;rintro e w8 ⟨rfl,bG,fP⟩;have hL:=agO hr;have lw:=hk.but bG hBL hVB;refine⟨rfl,bG,?_⟩;cases hc:ag T j Ah with
  |true=>
   rw[hc]at fP;refine Zj ⟨_,j+1,by rw[hL,gY,hc];rfl,by omega,fP,?_⟩;show aJ _ _ _ _;unfold aJ;refine⟨w.heap.size,nsl,lsl,ps,O,rfl,Ze (Zk _),nt w8 bG,⟨lw.names,λg hg=>Ze (lw.nown g hg).1⟩,⟨lw.row,λg hg=>Ze (lw.own g hg).1⟩,cr.keep (λm o hm ho=>⟨rfl,hm.1⟩) _ _ lw.refs,rfl⟩
  |false=>
   rw[hc]at fP;exact Ze ⟨bE T j,j,by rw[hL,gY,hc];rfl,fP,hN w8 bG⟩
 .refine(uc hp ⟨#[125]⟩ (B:=Zb) (by rw[Zu (by omega)];rfl)).mono ?_;rintro e w8 ⟨rfl,bG,fP⟩;refine⟨rfl,bG,Ze ⟨bad,j,agM hr,?_,hN w8 bG⟩⟩;have vK:¬((bad:Zg)<0):=by omega
  simp only[ZA,if_false,vK]at fP;exact fP
def Pi(V:Zc->Prop)(b g cap:Zc)(T:Zd (aj×Zc))(i d:Zc)(thing:Zc->Zn Zc (Zd Zh×Nd×Zc))(res:Zn Zc (Zd Zh×Zd Nd×Zc))(gh:Zc)(ks:Zd Zh)(l:Zd Nd)(s:Zh)(M m4:Zc)(w4:Zi):Prop:=
 (∃y j4,i<j4/\T.length<=j4+gh/\ax w4 V b g cap T j4 (d+1) (-1)/\aJ w4 (λm=>V m\/M<=m) y (.pointer (Za ⟨m4,0,O⟩)) /\
  res=if ag T j4 kX then dY T thing (gh-1) (ks++[s]) (l++[y]) (j4+1)else .ok (ks++[s],l++[y],j4)) \/
 (∃(bad j4:Zc),res=.error bad/\ax w4 V b g cap T j4 (d+1) (bad:Zg))
theorem af1(ks:Zd Zh):(kv ks).length=ks.length:=by simp[kv]
theorem agK(hP:P){w7 w8:Zi}{n5 g7 cap7:Zc}{o':Obj}
 (hBL:b<w.heap.size) (hGL:g<w.heap.size) (hV:∀m,V m->m<w.heap.size) (hVB:∀m,V m->m≠b) (mL:1<=gk) (em:ps.length+gk<=T.length+1) (dO:ks.length=ps.length) (aM:ab b w w4) (hwM:w.heap.size<M) (hM4:M<=w4.heap.size) (hnM:∀k,nsl.ownBlock=Za k->k<M) (qK:∀k,lsl.ownBlock=Za k->k<M)
 (hk:kD V w.heap.size w.heap.size nsl lsl ks l ps w4) (de:w4.heap[w.heap.size]?=Za (bH fi 0 ⟨#[]⟩ nsl lsl 0 0 0 Zb Zb Zb (.pointer O)))
 (jh:ao w5 9 (.slice (Za ⟨g5,0,O⟩) n5 cap5) (kv ks++[.string s])) (bK:(w4.alloc o).grownBy w5 nsl.ownBlock) (ij:nsl.ownBlock=Za g5\/g5=w4.heap.size+1)
 (fG:w6=w5.setCell ⟨w.heap.size,3,O⟩ (.slice (Za ⟨g5,0,O⟩) n5 cap5))
 (uu:ao w7 68 (.slice (Za ⟨g7,0,O⟩) (ps.length+1) cap7) (ps++[.pointer (Za ⟨m4,0,O⟩)])) (rB:(w6.alloc o').grownBy w7 lsl.ownBlock) (Hy:lsl.ownBlock=Za g7\/g7=w6.heap.size+1)
 (hw8:w8=w7.setCell ⟨w.heap.size,4,O⟩ (.slice (Za ⟨g7,0,O⟩) (ps.length+1) cap7)) (rM:Pi V b g cap T i d thing res gk ks l s M m4 w4):
 Zr prog 97 #[.pointer (Za ⟨b,0,O⟩),.string ⟨#[44]⟩] w8 λe w9=>∃B,e=.returned (.bool B)/\XX (FZ V b g cap T i d P w w.heap.size thing res (gk-1) B w9):=by
 have im:w4.heap.size+1<=w5.heap.size:=by have:=bK.size;simpa using this
 have Sp:w6.heap.size=w5.heap.size:=by rw[fG];simp[Zw]
 have hs7:w6.heap.size+1<=w7.heap.size:=by have:=rB.size;simpa using this
 have Sq:w8.heap.size=w7.heap.size:=by rw[hw8];simp[Zw]
 have lq:ab b w w6:=by
  rw[fG];exact np (D0 aM bK (λk jo=>(hk.nown k jo).1)) (Zk _)
 have QP:ab b w w8:=by
  rw[hw8];exact np (D0 lq rB (λk jo=>(hk.own k jo).1)) (Zk _)
 have ae8:∀m,m<w.heap.size->w6.heap[m]?=w4.heap[m]?:=by
  intro m hm;rw[fG,Zq _ _ _ _ (by intro e;have e:m=w.heap.size:=e;omega),bK.block m (by simp;omega) (λe=>by have:=(hk.nown m e.symm).1;omega)];exact Zp _ _ _ (by omega)
 have xC:∀m,m<w.heap.size->w8.heap[m]?=w4.heap[m]?:=by
  intro m hm;rw[hw8,Zq _ _ _ _ (by intro e;have e:m=w.heap.size:=e;omega),rB.block m (by simp;omega) (λe=>by have:=(hk.own m e.symm).1;omega),Zp _ _ _ (by omega)];exact ae8 m hm
 have rF:∀j4 bad4,ax w4 V b g cap T j4 (d+1) bad4->ax w8 V b g cap T j4 (d+1) bad4:=λj4 bad4 h=>h.keep (λm o hm ho=>xC m (by rcases hm with rfl|rfl|hm;exact hBL;exact hGL;exact hV m hm))
 have cw:w5.heap[w.heap.size]?=Za (bH fi 0 ⟨#[]⟩ nsl lsl 0 0 0 Zb Zb Zb (.pointer O)):=(bK.block _ (by simp;omega) (λe=>(hk.nown _ e.symm).2.1 rfl)).trans ((Zp _ _ _ (by omega)).trans de);have fk:w6.heap[w.heap.size]?=Za (bH fi 0 ⟨#[]⟩ (.slice (Za ⟨g5,0,O⟩) n5 cap5) lsl 0 0 0 Zb Zb Zb (.pointer O)):=by rw[fG];exact TA cw _
 have gm:w7.heap[w.heap.size]?=Za (bH fi 0 ⟨#[]⟩ (.slice (Za ⟨g5,0,O⟩) n5 cap5) lsl 0 0 0 Zb Zb Zb (.pointer O)):=(rB.block _ (by simp;omega) (λe=>(hk.own _ e.symm).2 rfl)).trans ((Zp _ _ _ (by omega)).trans fk);have nt:w8.heap[w.heap.size]?=Za (bH fi 0 ⟨#[]⟩ (.slice (Za ⟨g5,0,O⟩) n5 cap5) (.slice (Za ⟨g7,0,O⟩) (ps.length+1) cap7) 0 0 0 Zb Zb Zb (.pointer O)):=by rw[hw8];exact IG gm _
 have fin:∀B w9,ab b w8 w9->((∃y j4,P/\kD V w.heap.size w.heap.size (.slice (Za ⟨g5,0,O⟩) n5 cap5) (.slice (Za ⟨g7,0,O⟩) (ps.length+1) cap7) (ks++[s]) (l++[y]) (ps++[.pointer (Za ⟨m4,0,O⟩)]) w9/\ax w9 V b g cap T j4 (d+1) (-1)/\i<j4/\(if B then dY T thing (gk-1) (ks++[s]) (l++[y]) j4=res/\T.length<=j4+(gk-1)else res=.ok (ks++[s],l++[y],j4)))\/(∃(bad j4:Zc),res=.error bad/\ax w9 V b g cap T j4 (d+1) (bad:Zg)))->FZ V b g cap T i d P w w.heap.size thing res (gk-1) B w9:=by
  intro B w9 jd afa;have Ic:w9.heap[w.heap.size]?=_:=(jd.block _ (al nt) (by intro e;injection e with e;omega)).trans nt;rcases afa with⟨y,j4,h1,h2,h3,h4,h5⟩|⟨bad,j4,h1,h3⟩
  .exact⟨QP.trans jd,al Ic,_,_,ks++[s],l++[y],_,Ic,by simp;omega,by simp;omega,Zj ⟨j4,h1,h3,h2,h4,h5⟩⟩
  .exact⟨QP.trans jd,al Ic,_,_,ks++[s],l,ps++[.pointer (Za ⟨m4,0,O⟩)],Ic,by simp;omega,by simp;omega,Ze ⟨bad,j4,h1,h3⟩⟩
 rcases rM with⟨y,j4,ej,jM,bg,bI,hr⟩|⟨bad,j4,hr,bg⟩
 .have mO:kD V w.heap.size w.heap.size (.slice (Za ⟨g5,0,O⟩) n5 cap5) lsl (ks++[s]) l ps w6:=by
   rw[fG];exact hk.appN hV (by omega) (by omega) bK jh ij
  have BT:aJ w6 (λm=>(V m\/M<=m)/\lsl.ownBlock≠Za m/\(Zx (Za ⟨g5,0,O⟩) n5 cap5).ownBlock≠Za m) y (.pointer (Za ⟨m4,0,O⟩)):=by
   refine aJ.keep (λm o1 hm ho=>?_) _ _ bI;have vJ:=al ho;have dM:nsl.ownBlock≠Za m:=by
    intro e;have h1:=hnM m e;have h2:=(hk.nown m e).1;rcases hm with h|h
    .have:=hV m h;omega
    .omega
   have ik:lsl.ownBlock≠Za m:=by
    intro e;have h1:=qK m e;have h2:=(hk.own m e).1;rcases hm with h|h
    .have:=hV m h;omega
    .omega
   have Ia:m≠w.heap.size:=by
    rcases hm with h|h
    .have:=hV m h;omega
    .omega
   refine⟨?_,hm,ik,?_⟩
   .rw[fG,Zq _ _ _ _ (by simpa using Ia),bK.block m (by simp;omega) (λe=>dM e.symm)];exact Zp _ _ _ vJ
   .intro e;have e:g5=m:=by simpa[Zl]using e
    subst e;rcases ij with h|h
    .exact dM h
    .omega
  have lw:kD V w.heap.size w.heap.size (.slice (Za ⟨g5,0,O⟩) n5 cap5) (.slice (Za ⟨g7,0,O⟩) (ps.length+1) cap7) (ks++[s]) (l++[y]) (ps++[.pointer (Za ⟨m4,0,O⟩)]) w8:=by
   rw[hw8];exact mO.appL BT hwM (by omega) hV (Zk _) (by omega) rB uu Hy
  refine(kH (rF _ _ bg) ⟨#[44]⟩ (B:=ag T j4 kX) (by simp[kX])).mono ?_;rintro e w9 ⟨rfl,jd,iD⟩;refine⟨_,rfl,fin _ w9 jd (Zj ⟨y,(if ag T j4 kX then j4+1 else j4),hP,lw.but jd hBL hVB,iD,?_,?_⟩)⟩
  .split <;> omega
  .cases hc:ag T j4 kX with
   |true=>rw[hc]at hr;simp at hr⊢;exact⟨hr.symm,by omega⟩
   |false=>rw[hc]at hr;simp at hr⊢;exact hr
 .refine(kH (rF _ _ bg) ⟨#[44]⟩ (B:=Zb) (by rw[Zu (by omega)];rfl)).mono ?_;rintro e w9 ⟨rfl,jd,iD⟩;exact⟨_,rfl,fin _ w9 jd (Ze ⟨bad,j4,hr,iD⟩)⟩
theorem UH{k:Zc}{s':Zh}(h:ag T k s=Zf)(bj:s≠s'):ag T k s'=Zb:=by
 unfold ag at h⊢;cases hx:T[k]? with
 |none=>rfl
 |some x=>
  rw[hx]at h;simp at h⊢;intro _ e;exact bj (h.2.symm.trans e)
def tY(T:Zd (aj×Zc))(inn:bc)(i:Zc):PR:=match inn with
 |none=>.error (bE T i)
 |some f=>fH T f (i+1)
theorem abb(h:tY T inn i=.error bad):jy T inn i=.error bad:=by
 cases inn with
 |none=>exact(by injection h with h;subst h;rfl)
 |some f=>unfold tY at h;unfold jy;simp only at h⊢;rw[h]
theorem abc{y:Nd×Zc}(h:tY T inn i=.ok y):jy T inn i=gY T eU y.1 y.2:=by
 cases inn with
 |none=>exact(by injection h)
 |some f=>unfold tY at h;unfold jy;simp only at h⊢;rw[h]
theorem PI
 (hBL:b<w.heap.size) (hVB:∀m,V m->m≠b) (cd:wr.heap[w.heap.size]?=Za (bH op 0 ⟨#[]⟩ (.slice O 0 0) lsl n0 n1 n2 i0 i1 i2 (.pointer O)))
 (eo:(∃j,ax wr V b g cap T j (d+1) (-1)/\(ao wr 68 lsl ps/\∀g,lsl.ownBlock=Za g->w.heap.size<=g)/\cr wr (λm=>V m\/w.heap.size<=m) l ps/\i<j/\tY T inn i=.ok (.mk op 0 ⟨#[]⟩ [] l n0 n1 n2 i0 i1 i2 O,j))\/(∃(bad j:Zc),tY T inn i=.error bad/\ax wr V b g cap T j (d+1) (bad:Zg))):
 Zr prog 222 #[.pointer (Za ⟨b,0,O⟩),.string ⟨#[93]⟩] wr λe w8=>e=.returned (.tuple #[])/\ab b wr w8/\XX (F0 V b g cap T i d w (jy T inn i) (.pointer (Za ⟨w.heap.size,0,O⟩)) w8):=by
 have md:=al cd;have nt:∀w8,ab b wr w8->w8.heap[w.heap.size]?=Za (bH op 0 ⟨#[]⟩ (.slice O 0 0) lsl n0 n1 n2 i0 i1 i2 (.pointer O)):=λw8 bG=>(bG.block _ md (by intro e;injection e with e;omega)).trans cd
 have hN:∀w8,ab b wr w8->gx w8 w.heap.size (.pointer (Za ⟨w.heap.size,0,O⟩)):=λw8 bG=>⟨w.heap.size,_,_,_,_,_,_,_,_,_,_,_,_,rfl,Zk _,nt w8 bG⟩
 rcases eo with⟨j,hp,aO,ae4,ej,hr⟩|⟨bad,j,hr,hp⟩
 .refine(uc hp ⟨#[93]⟩ (B:=ag T j eU) (by simp[eU])).mono ?_;rintro e w8 ⟨rfl,bG,fP⟩;have hL:=abc hr;refine⟨rfl,bG,?_⟩;have vI:∀m o,(V m\/w.heap.size<=m)->wr.heap[m]?=Za o->w8.heap[m]?=wr.heap[m]?/\(V m\/w.heap.size<=m):=uz bG (λm hm e=>by rcases hm with h|h;exact hVB m h e;omega);cases hc:ag T j eU with
  |true=>
   rw[hc]at fP;refine Zj ⟨_,j+1,by rw[hL,gY,hc];rfl,by omega,fP,?_⟩;show aJ _ _ _ _;unfold aJ;exact⟨w.heap.size,_,lsl,ps,O,rfl,Ze (Zk _),nt w8 bG,⟨Zv _ _ _ _,λg hg=>by simp[Zl]at hg⟩,ao.keepA (A:=λm=>V m\/w.heap.size<=m) ⟨aO.1,λg hg=>Ze (aO.2 g hg)⟩ vI,cr.keep vI _ _ ae4,rfl⟩
  |false=>
   rw[hc]at fP;exact Ze ⟨bE T j,j,by rw[hL,gY,hc];rfl,fP,hN w8 bG⟩
 .refine(uc hp ⟨#[93]⟩ (B:=Zb) (by rw[Zu (by omega)];rfl)).mono ?_;rintro e w8 ⟨rfl,bG,fP⟩;refine⟨rfl,bG,Ze ⟨bad,j,abb hr,?_,hN w8 bG⟩⟩;have vK:¬((bad:Zg)<0):=by omega
  simp only[ZA,if_false,vK]at fP;exact fP
theorem GL(h:(bp T i).kind=110):aZ T i=((bp T i).num,Zf,i+1):=by rw[aZ,Zt h]
theorem GK(h:(bp T i).kind≠110):aZ T i=(0,Zb,i):=by rw[aZ,if_neg h]
section
variable {T:Zd (aj×Zc)} {f:(Zc->PR)×(Zc->PR)} {i:Zc}
theorem afH(h:ag T i eU=Zf):fH T f i=.ok (nH qj,i):=by unfold fH;rw[h];rfl
theorem afJ(h:ag T i eU=Zb)(h1:ag T i eV=Zf):fH T f i=.ok (nH pA,i+1):=by unfold fH;rw[h,h1];rfl
theorem afD{x:Nd}{j:Zc}(h:ag T i eU=Zb)(h1:ag T i eV=Zb)(h2:ag T i kW=Zf)(hx:f.2 (i+1)=.ok (x,j)):fH T f i=.ok (dn om [x],j):=by unfold fH;rw[h,h1,h2,hx];rfl
theorem afE(h:ag T i eU=Zb)(h1:ag T i eV=Zb)(h2:ag T i kW=Zf)(hx:f.2 (i+1)=.error bad):fH T f i=.error bad:=by unfold fH;rw[h,h1,h2,hx];rfl
theorem afF(h:ag T i eU=Zb)(h1:ag T i eV=Zb)(h2:ag T i kW=Zb)(hb:aZ T i=(a1,Zf,p1))(hc:ag T p1 fo=Zb):fH T f i=.ok (.mk oO 0 ⟨#[]⟩ [] [] a1 0 0 Zf Zb Zb O,p1):=by
 unfold fH;rw[h,h1,h2,hb];simp only;rw[hc];rfl
theorem afI(h:ag T i eU=Zb)(h1:ag T i eV=Zb)(h2:ag T i kW=Zb)(hb:aZ T i=(a1,Zb,p1))(hc:ag T p1 fo=Zb):fH T f i=.error (bE T i):=by
 unfold fH;rw[h,h1,h2,hb];simp only;rw[hc];rfl
theorem afM(h:ag T i eU=Zb)(h1:ag T i eV=Zb)(h2:ag T i kW=Zb)(hb:aZ T i=(a1,s1,p1))(hc:ag T p1 fo=Zf)(ah:aZ T (p1+1)=(a2,s2,p2))(eK:ag T p2 fo=Zb):fH T f i=.ok (.mk j7 0 ⟨#[]⟩ [] [] a1 a2 1 s1 s2 Zf O,p2):=by
 unfold fH;rw[h,h1,h2,hb];simp only;rw[hc,ah];simp only;rw[eK];rfl
theorem afG(h:ag T i eU=Zb)(h1:ag T i eV=Zb)(h2:ag T i kW=Zb)(hb:aZ T i=(a1,s1,p1))(hc:ag T p1 fo=Zf)(ah:aZ T (p1+1)=(a2,s2,p2))(eK:ag T p2 fo=Zf)(hk:(bp T (p2+1)).kind=110)(hn:(bp T (p2+1)).num=0):fH T f i=.error (bE T (p2+1)):=by
 unfold fH;rw[h,h1,h2,hb];simp only;rw[hc,ah];simp only;rw[eK];simp[hk,hn]
theorem afK{a3:Zg}(h:ag T i eU=Zb)(h1:ag T i eV=Zb)(h2:ag T i kW=Zb)(hb:aZ T i=(a1,s1,p1))(hc:ag T p1 fo=Zf)(ah:aZ T (p1+1)=(a2,s2,p2))(eK:ag T p2 fo=Zf)(hk:(bp T (p2+1)).kind=110)(hn:(bp T (p2+1)).num≠0)(ha:a3=(bp T (p2+1)).num):fH T f i=.ok (.mk j7 0 ⟨#[]⟩ [] [] a1 a2 a3 s1 s2 Zf O,p2+1+1):=by
 unfold fH;rw[h,h1,h2,hb];simp only;rw[hc,ah];simp only;rw[eK,GL hk];simp[hk,hn,ha]
theorem afL(h:ag T i eU=Zb)(h1:ag T i eV=Zb)(h2:ag T i kW=Zb)(hb:aZ T i=(a1,s1,p1))(hc:ag T p1 fo=Zf)(ah:aZ T (p1+1)=(a2,s2,p2))(eK:ag T p2 fo=Zf)(hk:(bp T (p2+1)).kind≠110):fH T f i=.ok (.mk j7 0 ⟨#[]⟩ [] [] a1 a2 1 s1 s2 Zf O,p2+1):=by
 unfold fH;rw[h,h1,h2,hb];simp only;rw[hc,ah];simp only;rw[eK,GK hk];simp[hk]
end
end Go.Proofs.YtdlgkgfeoiohiaaGreatDoor
