/- Part 3. -/
import Derived.Test.YtdlgkgfeoiohiaaGreatDoorA02
import Derived.Deep.DeepCutAuto
open Bool renaming true -> Zj,false -> Zl
open ByteArray renaming size_extract -> Zm,size -> Zo
open Go renaming Calls -> Zh,World -> Zi
open Int renaming mul_assoc -> Zp,pow_succ -> Zq
open List renaming mem_iff_getElem -> Zr
open Option renaming some -> Zc,none -> Zd
open Prod.mk renaming injEq -> Zn
open UInt8.toNat renaming inj -> Zt
open _root_ renaming Int -> O,Nat -> Za,ByteArray -> Zb,Option -> Ze,UInt8 -> Zf,Bool -> Zg,if_neg -> Zk
namespace Go.Proofs.YtdlgkgfeoiohiaaGreatDoor
set_option linter.unusedVariables false
set_option maxHeartbeats 16000000
set_option maxRecDepth 100000
open Go.RowKit J Tryz
variable {s t:Zb}{k i k' p k1:Za}{point n bad:O}{c:Zf}{cs:List Zf}
def jJ(point:O):List Zf->Za->O->Ze O
 |[],_,n=>Zc n
 |c::cs,i,n=>
  if c=48 then jJ point cs (i+1) n
  else if point-i+5<0\/15<point-i+5 then Zd
  else if 1000000000000000<n+((c.toNat:O)-48)*10^(point-i+5).toNat then Zd
  else jJ point cs (i+1) (n+((c.toNat:O)-48)*10^(point-i+5).toNat)
def kI(ds:List Zf)(point:O):Ze O:=jJ point ds 0 0
theorem ahB(h:p<=15):(10:O)^p<=1000000000000000/\1<=(10:O)^p:=by
 rcases(show p=0\/p=1\/p=2\/p=3\/p=4\/p=5\/p=6\/p=7\/p=8\/p=9\/p=10\/p=11\/p=12\/p=13\/p=14\/p=15 from by omega)with rfl|rfl|rfl|rfl|rfl|rfl|rfl|rfl|rfl|rfl|rfl|rfl|rfl|rfl|rfl|rfl <;> decide
theorem IA{d:O}(h0:0<=d)(h9:d<=9)(h:p<=15):0<=d*10^p/\d*10^p<=9000000000000000:=by
 have:=ahB h;constructor
 .exact O.mul_nonneg h0 (by omega)
 .exact O.le_trans (O.mul_le_mul h9 this.1 (by omega) (by omega)) (by omega)
theorem GY(h:c=48):jJ point (c::cs) i n=jJ point cs (i+1) n:=by rw[jJ,if_pos h]
theorem KO(h:c≠48)(hp:point-i+5<0\/15<point-i+5):jJ point (c::cs) i n=Zd:=by rw[jJ,Zk h,if_pos hp]
theorem KN(h:c≠48)(hp:¬(point-i+5<0\/15<point-i+5))(hb:1000000000000000<n+((c.toNat:O)-48)*10^(point-i+5).toNat):jJ point (c::cs) i n=Zd:=by rw[jJ,Zk h,Zk hp,if_pos hb]
theorem KP(h:c≠48)(hp:¬(point-i+5<0\/15<point-i+5))(hb:¬1000000000000000<n+((c.toNat:O)-48)*10^(point-i+5).toNat):jJ point (c::cs) i n=jJ point cs (i+1) (n+((c.toNat:O)-48)*10^(point-i+5).toNat):=by rw[jJ,Zk h,Zk hp,Zk hb]
theorem KJ(lit:Zb)(m:Za)(h:m<lit.size):lit.data.toList.drop m=lit[m]::lit.data.toList.drop (m+1):=by
 rw[List.drop_eq_getElem_cons (by simpa using h)];rfl
def acD:Ze O->Value
 |some n=>.tuple #[.int .i64 n,.bool Zj]
 |none=>.tuple #[.int .i64 0,.bool Zl]
theorem acE(t:Zb)(point:O)(w:Zi)(ht:t.size<=10000)(aC:-2000000<=point)(bb:point<=2000000)(xr:∀i (h:i<t.size),48<=(t[i]'h).toNat/\(t[i]'h).toNat<=57):
 Zh prog 180 #[.string t,.int .i64 point] w λe w'=>e=.returned (acD (kI t.data.toList point))/\w=w':=by
 have HD:XX (∀i (h:i<t.size),48<=(t[i]'h).toNat/\(t[i]'h).toNat<=57):=xr;clear xr;obtain⟨R,hR⟩:∃R,R=kI t.data.toList point:=⟨_,rfl⟩
 have HR:XX (jJ point t.data.toList 0 0=R):=hR.symm;rw[<-hR];clear hR;go_enter func180,ntmps180;go_wp2_with fail;go_loopg [6,7] t.size (λg n i wr=>∃(m:Za) (q:O),w=wr/\m<=t.size/\g=t.size-m/\i=.int .i64 m/\n=.int .i64 q/\0<=q/\q<=1000000000000000/\jJ point (t.data.toList.drop m) m q=R)
 case atStart=>exact⟨0,0,rfl,by omega,by omega,rfl,rfl,by omega,by omega,by simpa using HR.o⟩
 case round=>
  obtain⟨m,q,rfl,hm,hg,rfl,rfl,BZ,sZ,hX⟩:=hrel;have HG:XX (gk=t.size-m):=hg;have HX:XX (jJ point (t.data.toList.drop m) m q=R):=hX;clear hg hX;by_cases ai:m<t.size
  .obtain⟨c,hc⟩:∃c:O,c=((t[m]'ai).toNat:O):=⟨_,rfl⟩
   have hcd:=HD.o m ai;have rs:=HX.o;rw[KJ t m ai]at rs;by_cases dA:(t[m]'ai)=48
   .have HN:XX (jJ point (t.data.toList.drop (m+1)) (m+1) q=R):=(GY dA).symm.trans rs;have hb:(((t[m]'ai).toNat:O)==48)=Zj:=by rw[dA];rfl
    clear rs hc c;go_wp2;go_roundg (t.size-(m+1))
    case measure=>rw[HG.o];omega
    case rel=>exact⟨m+1,q,rfl,by omega,rfl,by go_num,rfl,BZ,sZ,HN.o⟩
   .have bj:(t[m]'ai).toNat≠48:=by intro e;apply dA;exact Zt e
    have hb:(((t[m]'ai).toNat:O)==48)=Zl:=beq_eq_false_iff_ne.2 (by omega);have cU:49<=((t[m]'ai).toNat:O):=by omega
    have eK:((t[m]'ai).toNat:O)<=57:=by omega
    by_cases BK:point-m+5<0\/15<point-m+5
    .have HN:XX (R=Zd):=rs.symm.trans (KO dA BK);clear rs hc c;rcases BK with BK|BK
     all_goals
      go_wp2;go_ret2;exact⟨by rw[HN.o];rfl,rfl⟩
    .obtain⟨p,hp⟩:∃p:Za,(p:O)=point-m+5:=⟨(point-m+5).toNat,by omega⟩
     have fQ:(point-m+5).toNat=p:=by omega
     have ams:p<=15:=by omega
     have HP:XX (point-m+5=(p:O)):=hp.symm;have hnf:¬(point-(m:O)+5<0):=by omega
     have amn:¬(15<point-(m:O)+5):=by omega
     have amr:(p:O)<=point-m+5:=by omega
     have amt:point-m+5<=(p:O):=by omega
     clear hc c hp;go_wp2_with fail;go_loopg [9,10] p (λg dd kk wx=>w=wx/\∃(x:Za) (dv:O),x<=p/\g=p-x/\kk=.int .i64 x/\dd=.int .i64 dv/\dv=(((t[m]'ai).toNat:O)-48)*10^x/\0<=dv)
     case atStart=>exact⟨rfl,0,((t[m]'ai).toNat:O)-48,by omega,by omega,rfl,by first|rfl|go_num,by simp,by omega⟩
     case round=>
      obtain⟨rfl,x,dv,hx,qI,rfl,rfl,EN,alX⟩:=hrel;have hdb:=IA (d:=((t[m]'ai).toNat:O)-48) (p:=x) (by omega) (by omega) (by omega);rw[<-EN]at hdb;have De:XX (dv=(((t[m]'ai).toNat:O)-48)*10^x):=EN;have WD:XX (gk=p-x):=qI;clear EN qI rs;by_cases zQ:x<p
      .have LI:=IA (d:=((t[m]'ai).toNat:O)-48) (p:=x+1) (by omega) (by omega) (by omega);rw[Zq,<-Zp,<-De.o]at LI;have Wv:XX (dv*10=(((t[m]'ai).toNat:O)-48)*10^(x+1)):=by show _=_;rw[Zq,<-Zp,<-De.o]
       go_wp2;go_roundg (p-(x+1))
       case measure=>rw[WD.o];omega
       case rel=>exact⟨rfl,x+1,dv*10,by omega,rfl,by go_num,rfl,Wv.o,by omega⟩
      .have uw:x=p:=by omega
       subst uw;have rs:=HX.o;rw[KJ t m ai]at rs;by_cases ns:1000000000000000<q+dv
       .have HN:XX (R=Zd):=rs.symm.trans (KN dA BK (by rw[fQ,<-De.o];exact ns));clear rs;go_wp2;go_ret2;exact⟨by rw[HN.o];rfl,rfl⟩
       .have HN:XX (jJ point (t.data.toList.drop (m+1)) (m+1) (q+dv)=R):=by
         have:=KP (point:=point) (cs:=t.data.toList.drop (m+1)) (i:=m) (n:=q) dA BK (by rw[fQ,<-De.o];exact ns);rw[fQ,<-De.o]at this;exact this.symm.trans rs
        clear rs;go_wp2;go_roundg (t.size-(m+1))
        case measure=>rw[HG.o];omega
        case rel=>exact⟨m+1,q+dv,rfl,by omega,rfl,by go_num,rfl,by omega,by omega,HN.o⟩
  .have HN:XX (R=Zc q):=by
    show _=_;rw[<-HX.o,List.drop_eq_nil_of_le (by simp;omega)];rfl
   go_wp2;go_ret2;exact⟨by rw[HN.o];rfl,rfl⟩
def dq(kind n:O)(s:Zb)(l ks:Value)(wt:O):Obj:=
 .cells #[.int .u8 kind,.int .i64 n,.string s,l,ks,.int .i64 wt] 171 (0,0)
def eE:Value:=.slice Zd 0 0
theorem IJ(w:Zi):Zh prog 127 #[] w λe w'=>e=.returned (.pointer (Zc ⟨w.heap.size,0,Zd⟩))/\w'=w.alloc (dq 122 0 ⟨#[]⟩ eE eE 1):=by
 go_enter func127,ntmps127;go_wp2;go_ret;exact⟨rfl,rfl⟩
theorem Vd(t:Zg)(w:Zi):Zh prog 128 #[.bool t] w λe w'=>e=.returned (.pointer (Zc ⟨w.heap.size,0,Zd⟩))/\w'=w.alloc (dq (if t then 116 else 102) 0 ⟨#[]⟩ eE eE 1):=by
 cases t
 all_goals
  go_enter func128,ntmps128;go_wp2;go_ret;exact⟨rfl,rfl⟩
theorem IK(n:O)(w:Zi):Zh prog 181 #[.int .i64 n] w λe w'=>e=.returned (.pointer (Zc ⟨w.heap.size,0,Zd⟩))/\w'=w.alloc (dq 110 n ⟨#[]⟩ eE eE 1):=by
 go_enter func181,ntmps181;go_wp2;go_ret;exact⟨rfl,rfl⟩
theorem aiT(s:Zb)(w:Zi)(hs:s.size<=100000):Zh prog 124 #[.string s] w λe w'=>e=.returned (.pointer (Zc ⟨w.heap.size,0,Zd⟩))/\w'=w.alloc (dq 115 0 s eE eE (1+s.size)):=by
 go_enter func124,ntmps124;go_wp2;go_ret;exact⟨rfl,rfl⟩
def wy(s:Zb)(k:Za)(bad c:O):Zg×Za:=if cv s k bad=c then(Zj,k+1)else(Zl,k)
theorem CN(b:Za)(s:Zb)(k:Za)(d bad:O)(lg:Zg)(c:O)(w:Zi)(hb:w.heap[b]?=Zc (aq s k d bad lg))(hs:s.size<=1000)(fW:0<=c)(cU:c<=255):
 Zh prog 174 #[.pointer (Zc ⟨b,0,Zd⟩),.int .u8 c] w λe w'=>∃t k',e=.returned (.bool t)/\ab b w w'/\w'.heap[b]?=Zc (aq s k' d bad lg)/\XX (wy s k bad c=(t,k')):=by
 by_cases h:cv s k bad=c
 .have:=(qC (show 0<=cv s k bad by omega)).1;refine(I4 b s k d bad lg c w hb h fW (by omega)).mono ?_;rintro e w' ⟨rfl,h1,h2⟩;exact⟨Zj,k+1,rfl,h1,h2,by show _=_;rw[wy,if_pos h]⟩
 .refine(xV b s k d bad lg c w hb h fW cU).mono ?_;rintro e w' ⟨rfl,h1,h2⟩;exact⟨Zl,k,rfl,h1,h2,by show _=_;rw[wy,Zk h]⟩
theorem CM{c:O}(h:wy s k bad c=(Zj,k')):cv s k bad=c/\k'=k+1:=by
 unfold wy at h;split at h
 .simp only[Zn]at h;exact⟨by assumption,by omega⟩
 .simp at h
theorem CL{c:O}(h:wy s k bad c=(Zl,k')):cv s k bad≠c/\k'=k:=by
 unfold wy at h;split at h
 .simp at h
 .simp only[Zn]at h;exact⟨by assumption,by omega⟩
def kz(s:Zb)(k:Za):Ze Za:=if gb s k=48 then Zc (k+1)else if aK (gb s k)then Zc (aA s k)else Zd
def fI(s:Zb)(k:Za):Zb×Za×O:=if aK (gb s k)then(s.extract k (aA s k),aA s k,-1)else(⟨#[48]⟩,k,(k:O))
def eZ(s:Zb)(k:Za):Zb×Za×O:=if gb s k=46 then fI s (k+1)else(⟨#[]⟩,k,-1)
def iG:List Zf->O->O
 |[],p=>p
 |c::cs,p=>iG cs (if p<100000 then 10*p+((c.toNat:O)-48)else p)
def d9(s:Zb)(k:Za)(bad:O):O×Za×O:=
 if cv s k bad=101\/cv s k bad=69 then
  let r:=fI s (if gb s (k+1)=45\/gb s (k+1)=43 then k+2 else k+1)
  ((if gb s (k+1)=45 then-iG r.1.data.toList 0 else iG r.1.data.toList 0),r.2.1,r.2.2)
 else(0,k,bad)
theorem ait(b:Za)(s:Zb)(k:Za)(d:O)(lg:Zg)(w:Zi)(hb:w.heap[b]?=Zc (aq s k d (-1) lg))(hs:s.size<=1000)(hd:aK (gb s k)=Zl):
 Zh prog 179 #[.pointer (Zc ⟨b,0,Zd⟩)] w λe w'=>e=.returned (.string ⟨#[48]⟩)/\ab b w w'/\w'.heap[b]?=Zc (aq s k d k lg):=by
 have qH:gb s k<48\/57<gb s k:=by simp[aK]at hd;omega
 obtain⟨g0,g1,g2,g3,g4,hf⟩:=fS hb;have dF:XX (w.heap[b]?=Zc (aq s k d (-1) lg)):=hb;clear hb g0 g2 g3 g4 hd hf;go_enter func179,ntmps179;go_wp2_with (go_at_call 216;refine(QF b s k d lg _ _ _ (by exact dF.o) qH).mono ?_;rintro e w1 ⟨rfl,dG,eP⟩)
 have aT:XX (w1.heap[b]?=Zc (aq s k d k lg)):=eP;obtain⟨c0,c1,c2,c3,c4,l7⟩:=fS eP;clear eP c0 c1 c2 c4 l7 g1;refine wp_loop_rounds 1 ?_;rw[rounds_succ];go_wp2_with (go_at_call 121;refine(dC b s k d k lg _ (by exact aT.o)).mono ?_;rintro e w' ⟨rfl,n,rfl⟩;rw[ro s k (by omega)])
 go_ret;exact⟨rfl,dG.drewN _,aT.o⟩
theorem Uy:∀(f k:Za),∀i,k<=i->i<tw s f k->aK (gb s i)=Zj
 |0,k,i,h1,h2=>by simp[tw]at h2;omega
 |f+1,k,i,h1,h2=>by
  simp only[tw]at h2;split at h2
  .rename_i hd
   by_cases e:i=k
   .rw[e];exact hd
   .exact Uy f (k+1) i (by omega) h2
  .omega
theorem IW(h1:k<=i)(h2:i<aA s k):aK (gb s i)=Zj:=Uy _ k i h1 h2
theorem Qz{a b:Za}(hb:b<=s.size)(h:i<(s.extract a b).size):a+i<s.size/\((s.extract a b)[i]'h).toNat=(gb s (a+i)).toNat:=by
 have aH:(s.extract a b).size=b-a:=by simp[Zm];omega
 have ai:a+i<s.size:=by omega
 refine⟨ai,?_⟩;rw[pR ai];simp[Zb.getElem_extract]
theorem G0(hk:k<=s.size):∀i (h:i<(s.extract k (aA s k)).size),48<=((s.extract k (aA s k))[i]'h).toNat/\((s.extract k (aA s k))[i]'h).toNat<=57:=by
 intro i h;have hr:=nK s k hk;have aH:(s.extract k (aA s k)).size=aA s k-k:=by simp[Zm];omega
 have hg:=(Qz hr h).2;have hd:=IW (s:=s) (k:=k) (i:=k+i) (by omega) (by omega);simp[aK]at hd;omega
theorem Nl:∀(l:List Zf) (p:O),0<=p->p<=1000000->(∀c∈l,48<=c.toNat/\c.toNat<=57)->0<=iG l p/\iG l p<=1000000
 |[],p,h0,h1,_=>⟨h0,h1⟩
 |c::cs,p,h0,h1,hd=>by
  have hc:=hd c (by simp);simp only[iG];split
  .exact Nl cs _ (by omega) (by omega) (λx hx=>hd x (by simp[hx]))
  .exact Nl cs p h0 h1 (λx hx=>hd x (by simp[hx]))
def kZ(t:Zb):Prop:=∀i (h:i<t.size),48<=(t[i]'h).toNat/\(t[i]'h).toNat<=57
theorem KI:kZ ⟨#[48]⟩:=by
 intro i h;have:i=0:=by simp[Zo]at h;omega
 subst this;exact⟨by show 48<=(48:Zf).toNat;decide,by show(48:Zf).toNat<=57;decide⟩
theorem KH:kZ ⟨#[]⟩:=by intro i h;simp[Zo]at h
theorem kZ.mem(h:kZ t):∀c∈t.data.toList,48<=c.toNat/\c.toNat<=57:=by
 intro c hc;obtain⟨i,hi,rfl⟩:=Zr.1 hc;exact h i (by simpa using hi)
theorem kZ.append{u:Zb}(h:kZ t)(k:kZ u):kZ (t++u):=by
 intro i hi;have hm:(t++u)[i]∈(t++u).data.toList:=by
  rw[Zr];exact⟨i,by simpa using hi,rfl⟩
 rw[Zb.data_append,Array.toList_append,List.mem_append]at hm;rcases hm with hm|hm
 .exact h.mem _ hm
 .exact k.mem _ hm
theorem FF{l:Zb}{bad':O}(h:fI s k=(l,k',bad'))(hk:k<=s.size):kZ l/\l.size<=s.size+1/\k<=k'/\k'<=s.size/\(bad'=-1\/(bad'=k/\k'=k)):=by
 unfold fI at h;have hr:=nK s k hk;have hl:=qh s k;split at h
 .simp only[Zn]at h;obtain⟨rfl,rfl,rfl⟩:=h;exact⟨G0 hk,by simp[Zm];omega,hl,hr,Or.inl rfl⟩
 .simp only[Zn]at h;obtain⟨rfl,rfl,rfl⟩:=h;exact⟨KI,by show 1<=s.size+1;omega,Za.le_refl _,hk,Or.inr ⟨rfl,rfl⟩⟩
theorem UA(b:Za)(s:Zb)(k:Za)(d:O)(lg:Zg)(w:Zi)(hb:w.heap[b]?=Zc (aq s k d (-1) lg))(hs:s.size<=1000)(hk:k<=s.size):
 Zh prog 179 #[.pointer (Zc ⟨b,0,Zd⟩)] w λe w'=>∃l k' bad',e=.returned (.string l)/\ab b w w'/\w'.heap[b]?=Zc (aq s k' d bad' lg)/\XX (fI s k=(l,k',bad'))/\XX (kZ l)/\l.size<=1001/\k'<=s.size/\-1<=bad':=by
 cases hd:aK (gb s k)
 .refine(ait b s k d lg w hb hs hd).mono ?_;rintro e w' ⟨rfl,h1,h2⟩;have hx:fI s k=(⟨#[48]⟩,k,(k:O)):=by rw[fI,hd];rfl
  have:=FF hx hk;exact⟨_,_,_,rfl,h1,h2,hx,this.1,by omega,by omega,by omega⟩
 .refine(UB b s k d lg w hb hs hd).mono ?_;rintro e w' ⟨rfl,h1,h2⟩;have hx:fI s k=(s.extract k (aA s k),aA s k,-1):=by rw[fI,hd];rfl
  have:=FF hx hk;exact⟨_,_,_,rfl,h1,h2,hx,this.1,by omega,by omega,by omega⟩
theorem QA(h:gb s k=48):s.extract k (k+1)=⟨#[48]⟩:=by
 have hk:=cC (s:=s) (k:=k) (by omega);have aH:(s.extract k (k+1)).size=1:=by simp[Zm];omega
 have hg:((s.extract k (k+1))[0]'(by omega)).toNat=(gb s k).toNat:=(Qz (s:=s) (a:=k) (b:=k+1) (i:=0) (by omega) (by omega)).2;rw[h]at hg;apply Zb.ext
 apply Array.ext
 .exact aH
 .intro i h1 h2;have hi:i=0:=by simp at h2;omega
  subst hi;apply Zt
  exact hg
def dQ(s:Zb)(k:Za):Ze (Ze O)×Za×O:=
 match kz s (if gb s k=45 then k+1 else k)with
 |none=>(Zd,(if gb s k=45 then k+1 else k),(((if gb s k=45 then k+1 else k):Za):O))
 |some k2=>
  (Zc (kI ((s.extract (if gb s k=45 then k+1 else k) k2).data.toList++(eZ s k2).1.data.toList) (((k2-(if gb s k=45 then k+1 else k):Za):O)+(d9 s (eZ s k2).2.1 (eZ s k2).2.2).1)),
   (d9 s (eZ s k2).2.1 (eZ s k2).2.2).2.1,(d9 s (eZ s k2).2.1 (eZ s k2).2.2).2.2)
def TD(neg:Zg):Ze (Ze O)->Obj
 |none=>dq 122 0 ⟨#[]⟩ eE eE 1
 |some x=>dq 110 (if neg then -(x.getD 0)else x.getD 0) ⟨#[]⟩ eE eE 1
def uB(lg:Zg):Ze (Ze O)->Zg
 |some Zd=>Zj
 |_=>lg
theorem Cu(h1:k1=if gb s k=45 then k+1 else k)(h2:kz s k1=Zd):dQ s k=(Zd,k1,(k1:O)):=by
 simp only[dQ,<-h1,h2]
theorem rQ{k2:Za}{pt:Zb}{k3:Za}{b3 p:O}{k4:Za}{b4:O}(h1:k1=if gb s k=45 then k+1 else k)(h2:kz s k1=Zc k2)(h3:eZ s k2=(pt,k3,b3))(h4:d9 s k3 b3=(p,k4,b4)):
 dQ s k=(Zc (kI ((s.extract k1 k2).data.toList++pt.data.toList) (((k2-k1:Za):O)+p)),k4,b4):=by
 simp only[dQ,<-h1,h2,h3,h4]
theorem GX(point:O):∀(l:List Zf) (i:Za) (q r:O),0<=q->q<=1000000000000000->(∀c∈l,48<=c.toNat/\c.toNat<=57)->jJ point l i q=Zc r->0<=r/\r<=1000000000000000
 |[],i,q,r,h0,h1,_,h=>by simp[jJ]at h;omega
 |c::cs,i,q,r,h0,h1,hd,h=>by
  have hc:=hd c (by simp);have gF:∀x∈cs,48<=x.toNat/\x.toNat<=57:=λx hx=>hd x (by simp[hx])
  simp only[jJ]at h;split at h
  .exact GX point cs _ q r h0 h1 gF h
  .split at h
   .simp at h
   .split at h
    .simp at h
    .rename_i hn hb
     have:=IA (d:=(c.toNat:O)-48) (p:=(point-i+5).toNat) (by omega) (by omega) (by omega);exact GX point cs _ _ r (by omega) (by omega) gF h
end Go.Proofs.YtdlgkgfeoiohiaaGreatDoor
