/- Part 18. -/
import Derived.Test.YtdlgkgfeoiohiaaGreatDoorA13
import Derived.Test.YtdlgkgfeoiohiaaGreatDoorA16
import Derived.Lib.OthersKept
open Bool renaming true -> Za,false -> Zj
open ByteArray renaming data_extract -> ZL,ext -> ZM
open Go renaming Value -> Zd,World -> Zf,Calls -> Zn
open Go.BinOp renaming and -> ZG
open Go.Instr renaming typeAssert -> Zk
open Go.IntKind renaming u8 -> ZH
open Go.Lib renaming OthersKept -> Zl
open Go.Lib.OthersKept renaming refl -> Zq
open Go.RowKit renaming Below -> O
open Go.RowKit.Below renaming refl -> Zi
open Go.Value renaming ownBlock -> Z5
open Go.World renaming cell? -> Z6
open Go.World.ownsRow renaming kept -> Z7
open Int renaming tdiv_eq_ediv_of_nonneg -> ZN,tmod_eq_emod_of_nonneg -> ZO
open List renaming length_append -> Zr,length_cons -> Zv,length_singleton -> Zw,zipWith -> Zx,take_of_length_le -> ZC,length_reverse -> ZE,length -> ZI,mem_of_getElem? -> ZJ,dropWhile_sublist -> ZP,eq_nil_of_length_eq_zero -> ZQ,extract_toArray -> ZU,flatMap_append -> ZV,isEmpty_eq_false_iff -> ZW,length_map -> ZX,length_nil -> ZY,length_take -> ZZ,map_take -> Z0
open Nat renaming le_trans -> Zy,le_refl -> Z4
open Option renaming none -> Zh,some -> Zo
open Sum renaming inr -> Zm,inl -> Zz
open UInt8 renaming ofNat -> Zt
open _root_ renaming Int -> Zb,Nat -> Zc,List -> Ze,UInt8 -> Zg,if_neg -> Zp,if_pos -> Zu,ByteArray -> ZA,absurd -> ZB,congrArg -> ZD,beq_eq_false_iff_ne -> ZK
namespace Go.Proofs.YtdlgkgfeoiohiaaGreatDoor
set_option linter.unusedVariables false
set_option maxHeartbeats 16000000
set_option maxRecDepth 100000
open Go.RowKit J Tryz
variable {w w':Zf}{N f n least m:Zc}{acc:Ze Zg}{x y:Zd}{t:TypeId}
def ue:Ze Zg:=[34,92,8,12,10,13,9]
theorem afq{c:Zg}(h:c≠34/\c≠92/\c≠8/\c≠12/\c≠10/\c≠13/\c≠9):Lib.indexByte ue c=-1:=by
 obtain⟨h1,h2,h3,h4,h5,h6,h7⟩:=h;have e:∀a b:Zg,a≠b->(b==a)=Zj:=λa b h=>by rw[ZK];exact λe=>h e.symm
 simp[Lib.indexByte,ue,e _ _ h1,e _ _ h2,e _ _ h3,e _ _ h4,e _ _ h5,e _ _ h6,e _ _ h7]
theorem vW(s:ZA)(c:Zb)(u:Zg)(i:Zb)(w:Zf)(hu:c=(u.toNat:Zb))(hi:Lib.indexByte s.data.toList u=i):
 Zn prog 120 #[.string s,.int .u8 c] w λe w'=>e=.returned (.int .i64 i)/\w=w':=by
 refine(Tryz.strings_IndexByte s c w).mono ?_;rintro e w' ⟨rfl,rfl⟩;subst hu;rw[show((u.toNat:Zb)).toNat.toUInt8=u by simp,hi];exact⟨rfl,rfl⟩
theorem aaT(n:Zc)(h:n<32):bits ZG ZH (n:Zb) 15=((n%16:Zc):Zb):=by
 have:∀m:Fin 32,bits ZG ZH (m.val:Zb) 15=((m.val%16:Zc):Zb):=by decide
 exact this ⟨n,h⟩
theorem aem{p:Prop}(h:p):XX p:=h
theorem kV{W:Zf}{out:Zd}{l:Ze Zg}(hO:Zl 5 Zh w W)(am:OB W N out l)(an:W.grownBy w' out.ownBlock):Zl 5 Zh w w':=by
 refine hO.grown an (λg hg=>?_);rcases am.2 with⟨h,_⟩|⟨g',cap,cur,rfl,_,hh,_⟩
 .rw[h]at hg;simp[Z5]at hg
 .simp[Z5]at hg;subst hg;exact⟨cur,_,hh⟩
theorem aaW(c:Zg)(w:Zf)(N:Zc)(out:Zd)(l:Ze Zg)(hN:N<=w.heap.size)(am:OB w N out l)(az:l.length<=900000):
 Zn prog 77 #[out,.int .u8 (c.toNat:Zb)] w λe w'=>∃out',e=.returned out'/\OB w' N out' (l++qb c)/\O N w w'/\N<=w'.heap.size/\Zl 5 Zh w w':=by
 rcases Nt c with rfl|rfl|rfl|rfl|rfl|rfl|rfl|hn
 .have HI:XX (Lib.indexByte ue (34:Zg)=0):=by show _=_;decide
  go_enter func77,ntmps77;go_wp2_with fail;refine(vW _ _ 34 0 w rfl HI.o).mono ?_;rintro e w1 ⟨rfl,rfl⟩;go_wp2_with (at_builtin;refine dz rfl (.tmp 10) (.tmp 13) rfl N out l rfl ?h1 _ _ _ [92,34] rfl rfl ?h2 ?h3 ?h4 ?_)
  case h1=>exact am.alloc _
  case h2=>exact qi rfl _ _ _ rfl rfl
  case h3=>simp;omega
  case h4=>simp;omega
  intro v' w4 aN an;have hK:Zl 5 Zh w w4:=kV ((Zq _ _ w).alloc _) (am.alloc _) an;have hB:O N w w4:=((Zi N w).alloc hN _).grown an (by simp;omega) am.below;have dk:N<=w4.heap.size:=by have:=an.size;simp at this;omega
  clear an;go_wp2;go_ret;exact⟨v',rfl,aN,hB,dk,hK⟩
 .have HI:XX (Lib.indexByte ue (92:Zg)=1):=by show _=_;decide
  go_enter func77,ntmps77;go_wp2_with fail;refine(vW _ _ 92 1 w rfl HI.o).mono ?_;rintro e w1 ⟨rfl,rfl⟩;go_wp2_with (at_builtin;refine dz rfl (.tmp 10) (.tmp 13) rfl N out l rfl ?h1 _ _ _ [92,92] rfl rfl ?h2 ?h3 ?h4 ?_)
  case h1=>exact am.alloc _
  case h2=>exact qi rfl _ _ _ rfl rfl
  case h3=>simp;omega
  case h4=>simp;omega
  intro v' w4 aN an;have hK:Zl 5 Zh w w4:=kV ((Zq _ _ w).alloc _) (am.alloc _) an;have hB:O N w w4:=((Zi N w).alloc hN _).grown an (by simp;omega) am.below;have dk:N<=w4.heap.size:=by have:=an.size;simp at this;omega
  clear an;go_wp2;go_ret;exact⟨v',rfl,aN,hB,dk,hK⟩
 .have HI:XX (Lib.indexByte ue (8:Zg)=2):=by show _=_;decide
  go_enter func77,ntmps77;go_wp2_with fail;refine(vW _ _ 8 2 w rfl HI.o).mono ?_;rintro e w1 ⟨rfl,rfl⟩;go_wp2_with (at_builtin;refine dz rfl (.tmp 10) (.tmp 13) rfl N out l rfl ?h1 _ _ _ [92,98] rfl rfl ?h2 ?h3 ?h4 ?_)
  case h1=>exact am.alloc _
  case h2=>exact qi rfl _ _ _ rfl rfl
  case h3=>simp;omega
  case h4=>simp;omega
  intro v' w4 aN an;have hK:Zl 5 Zh w w4:=kV ((Zq _ _ w).alloc _) (am.alloc _) an;have hB:O N w w4:=((Zi N w).alloc hN _).grown an (by simp;omega) am.below;have dk:N<=w4.heap.size:=by have:=an.size;simp at this;omega
  clear an;go_wp2;go_ret;exact⟨v',rfl,aN,hB,dk,hK⟩
 .have HI:XX (Lib.indexByte ue (12:Zg)=3):=by show _=_;decide
  go_enter func77,ntmps77;go_wp2_with fail;refine(vW _ _ 12 3 w rfl HI.o).mono ?_;rintro e w1 ⟨rfl,rfl⟩;go_wp2_with (at_builtin;refine dz rfl (.tmp 10) (.tmp 13) rfl N out l rfl ?h1 _ _ _ [92,102] rfl rfl ?h2 ?h3 ?h4 ?_)
  case h1=>exact am.alloc _
  case h2=>exact qi rfl _ _ _ rfl rfl
  case h3=>simp;omega
  case h4=>simp;omega
  intro v' w4 aN an;have hK:Zl 5 Zh w w4:=kV ((Zq _ _ w).alloc _) (am.alloc _) an;have hB:O N w w4:=((Zi N w).alloc hN _).grown an (by simp;omega) am.below;have dk:N<=w4.heap.size:=by have:=an.size;simp at this;omega
  clear an;go_wp2;go_ret;exact⟨v',rfl,aN,hB,dk,hK⟩
 .have HI:XX (Lib.indexByte ue (10:Zg)=4):=by show _=_;decide
  go_enter func77,ntmps77;go_wp2_with fail;refine(vW _ _ 10 4 w rfl HI.o).mono ?_;rintro e w1 ⟨rfl,rfl⟩;go_wp2_with (at_builtin;refine dz rfl (.tmp 10) (.tmp 13) rfl N out l rfl ?h1 _ _ _ [92,110] rfl rfl ?h2 ?h3 ?h4 ?_)
  case h1=>exact am.alloc _
  case h2=>exact qi rfl _ _ _ rfl rfl
  case h3=>simp;omega
  case h4=>simp;omega
  intro v' w4 aN an;have hK:Zl 5 Zh w w4:=kV ((Zq _ _ w).alloc _) (am.alloc _) an;have hB:O N w w4:=((Zi N w).alloc hN _).grown an (by simp;omega) am.below;have dk:N<=w4.heap.size:=by have:=an.size;simp at this;omega
  clear an;go_wp2;go_ret;exact⟨v',rfl,aN,hB,dk,hK⟩
 .have HI:XX (Lib.indexByte ue (13:Zg)=5):=by show _=_;decide
  go_enter func77,ntmps77;go_wp2_with fail;refine(vW _ _ 13 5 w rfl HI.o).mono ?_;rintro e w1 ⟨rfl,rfl⟩;go_wp2_with (at_builtin;refine dz rfl (.tmp 10) (.tmp 13) rfl N out l rfl ?h1 _ _ _ [92,114] rfl rfl ?h2 ?h3 ?h4 ?_)
  case h1=>exact am.alloc _
  case h2=>exact qi rfl _ _ _ rfl rfl
  case h3=>simp;omega
  case h4=>simp;omega
  intro v' w4 aN an;have hK:Zl 5 Zh w w4:=kV ((Zq _ _ w).alloc _) (am.alloc _) an;have hB:O N w w4:=((Zi N w).alloc hN _).grown an (by simp;omega) am.below;have dk:N<=w4.heap.size:=by have:=an.size;simp at this;omega
  clear an;go_wp2;go_ret;exact⟨v',rfl,aN,hB,dk,hK⟩
 .have HI:XX (Lib.indexByte ue (9:Zg)=6):=by show _=_;decide
  go_enter func77,ntmps77;go_wp2_with fail;refine(vW _ _ 9 6 w rfl HI.o).mono ?_;rintro e w1 ⟨rfl,rfl⟩;go_wp2_with (at_builtin;refine dz rfl (.tmp 10) (.tmp 13) rfl N out l rfl ?h1 _ _ _ [92,116] rfl rfl ?h2 ?h3 ?h4 ?_)
  case h1=>exact am.alloc _
  case h2=>exact qi rfl _ _ _ rfl rfl
  case h3=>simp;omega
  case h4=>simp;omega
  intro v' w4 aN an;have hK:Zl 5 Zh w w4:=kV ((Zq _ _ w).alloc _) (am.alloc _) an;have hB:O N w w4:=((Zi N w).alloc hN _).grown an (by simp;omega) am.below;have dk:N<=w4.heap.size:=by have:=an.size;simp at this;omega
  clear an;go_wp2;go_ret;exact⟨v',rfl,aN,hB,dk,hK⟩
 .have HI:XX (Lib.indexByte ue c=-1):=afq hn;have HQ:=Nu hn;have adR:=c.toNat_lt;clear hn;by_cases iA:c.toNat<32
  .rw[Zu iA]at HQ;obtain⟨q1,sZ⟩:∃q1:Zc,q1=c.toNat/16:=⟨_,rfl⟩
   obtain⟨q2,rN⟩:∃q2:Zc,q2=c.toNat%16:=⟨_,rfl⟩
   rw[<-sZ,<-rN]at HQ;have dV:XX (qb c=[92,117,48,48,og q1,og q2]):=HQ;have aeX:(q1:Zb)<16:=by omega
   have aeY:(q2:Zb)<16:=by omega
   have K1:(c.toNat:Zb)<32:=by omega
   have dE:(c.toNat:Zb)/16=(q1:Zb):=by omega
   have lO:bits ZG ZH (c.toNat:Zb) 15=(q2:Zb):=by rw[rN];exact aaT c.toNat iA
   clear HQ sZ rN iA;go_enter func77,ntmps77;go_wp2_with fail;refine(vW _ _ c (-1) w rfl HI.o).mono ?_;rintro e w1 ⟨rfl,rfl⟩;go_wp2
   go_region_law (refine UQ rfl _ _ rfl N out l (by rfl) (by exact am.alloc _) ⟨w.heap.size,0,Zh⟩ _ _ [92,117,48,48,og q1,og q2] (by rfl) (by rfl) (by exact UM w q1 q2 (by omega) (by omega) _ _) (by simp;omega) (by simp;omega) ?_;intro v' w4 aN an)
   all_goals
    rw[<-dV.o]at aN;have hK:Zl 5 Zh w w4:=kV (((Zq _ _ w).alloc _).drew) (am.alloc _) an;have hB:O N w w4:=(((Zi N w).alloc hN _).drew).grown an (by simp;omega) am.below;have dk:N<=w4.heap.size:=by have:=an.size;simp at this;omega
    clear an;go_wp2;go_ret;exact⟨v',rfl,aN,hB,dk,hK⟩
  .rw[Zp iA]at HQ;have dV:XX (qb c=[c]):=HQ;have K1:¬(c.toNat:Zb)<32:=by omega
   clear HQ iA;go_enter func77,ntmps77;go_wp2_with fail;refine(vW _ _ c (-1) w rfl HI.o).mono ?_;rintro e w1 ⟨rfl,rfl⟩;go_wp2_with (at_builtin;refine dz rfl (.tmp 26) (.tmp 28) rfl N out l rfl ?h1 _ _ _ [c] rfl rfl ?h2 ?h3 ?h4 ?_)
   case h1=>exact am.alloc _
   case h2=>exact cX rfl _ _ rfl
   case h3=>simp;omega
   case h4=>simp;omega
   intro v' w4 aN an;rw[<-dV.o]at aN;have hK:Zl 5 Zh w w4:=kV ((Zq _ _ w).alloc _) (am.alloc _) an;have hB:O N w w4:=((Zi N w).alloc hN _).grown an (by simp;omega) am.below;have dk:N<=w4.heap.size:=by have:=an.size;simp at this;omega
   clear an;go_wp2;go_ret;exact⟨v',rfl,aN,hB,dk,hK⟩
theorem Ko(s:ZA)(w:Zf)(N:Zc)(out:Zd)(l:Ze Zg)(hN:N<=w.heap.size)(am:OB w N out l)(hs:s.size<=100000)(az:l.length+(dt s.data.toList).length<=900000):
 Zn prog 46 #[out,.string s] w λe w'=>∃out',e=.returned out'/\OB w' N out' (l++dt s.data.toList)/\O N w w'/\N<=w'.heap.size/\Zl 5 Zh w w':=by
 have mc:l.length<=899998:=by simp[dt]at az;omega
 have j8:XX (l.length+(dt s.data.toList).length<=900000):=az;clear az;go_enter func46,ntmps46;go_wp2_with (at_builtin;refine dz rfl (.tmp 6) (.tmp 7) rfl N out l rfl ?h1 _ _ _ [34] rfl rfl ?h2 ?h3 ?h4 ?_)
 case h1=>exact am.alloc _
 case h2=>exact cX rfl _ _ rfl
 case h3=>simp;omega
 case h4=>simp;omega
 intro v1 w1 cE bX;have QX:Zl 5 Zh w w1:=kV ((Zq _ _ w).alloc _) (am.alloc _) bX;have je:O N w w1:=((Zi N w).alloc hN _).grown bX (by simp;omega) am.below;have io:N<=w1.heap.size:=by have:=bX.size;simp at this;omega
 clear bX;go_wp2_with fail;go_loopg [0,11] (s.size+1) (λg ov iv wr=>∃x:Zc,x<=s.size/\g=s.size+1-x/\iv=.int .i64 x/\OB wr N ov (l++34::(s.data.toList.take x).flatMap qb)/\O N w wr/\N<=wr.heap.size/\Zl 5 Zh w wr)
 case atStart=>exact⟨0,by omega,by omega,rfl,by simpa using cE,je,io,QX⟩
 case round=>
  obtain⟨x,hx,hg,rfl,dH,ba,aH,hK⟩:=hrel;have HK:XX (Zl 5 Zh w wr):=hK;have HG:XX (gk=s.size+1-x):=hg;clear cE je io hg hK QX;obtain⟨L,hL⟩:∃L,L=l++34::(s.data.toList.take x).flatMap qb:=⟨_,rfl⟩
  rw[<-hL]at dH;have HL:XX (L=l++34::(s.data.toList.take x).flatMap qb):=hL;have El:L.length<=899999:=by
   have h1:=j8.o;have h2:((s.data.toList.take x).flatMap qb).length<=(s.data.toList.flatMap qb).length:=by
    have h3:=ZD ZI (ZD (Ze.flatMap qb) (Ze.take_append_drop x s.data.toList));rw[ZV,Zr]at h3;omega
   rw[hL];simp[dt]at h1⊢;simp at h2;omega
  clear hL;by_cases ai:x<s.size
  .have ja:XX (L++qb (s[x]'ai)=l++34::(s.data.toList.take (x+1)).flatMap qb):=by
    show _=_;rw[HL.o,I3 s x ai,ZV];simp
   go_wp2_with fail;refine(aaW (s[x]'ai) wr N _ L aH dH (by omega)).mono ?_;rintro e w4 ⟨o4,rfl,aN,iP,dk,xl⟩;have jv:=aem xl;clear xl;go_wp2_with fail;go_roundg (s.size+1-(x+1))
   case measure=>rw[HG.o];omega
   case rel=>exact⟨x+1,by omega,rfl,by go_num,by rw[<-ja.o];exact aN,ba.trans iP,dk,HK.o.trans jv.o⟩
  .have HF:XX (L++[34]=l++dt s.data.toList):=by
    show _=_;rw[HL.o,dt,ZC (by simp;omega)];simp
   go_wp2_with (at_builtin;refine dz rfl (.tmp 20) (.tmp 21) rfl N _ L rfl ?j1 _ _ _ [34] rfl rfl ?j2 ?j3 ?j4 ?_)
   case j1=>exact dH.alloc _
   case j2=>exact cX rfl _ _ rfl
   case j3=>simp;omega
   case j4=>simp;omega
   intro v3 w3 bz aP;have tH:XX (Zl 5 Zh wr w3):=kV ((Zq _ _ wr).alloc _) (dH.alloc _) aP;have dr:O N wr w3:=((Zi N wr).alloc aH _).grown aP (by simp;omega) dH.below;have eC:N<=w3.heap.size:=by have:=aP.size;simp at this;omega
   rw[HF.o]at bz;clear aP;go_wp2;go_ret;exact⟨v3,rfl,bz,ba.trans dr,eC,HK.o.trans tH.o⟩
theorem Qc:∀(f n:Zc) (acc:Ze Zg),acc≠[]->n<10^f->iM f n 1 acc=(if n=0 then[]else Lib.decDigits n)++acc
 |0,n,acc,_,h=>by
  have:n=0:=by simpa using h
  rw[iM,Zu this];rfl
 |f+1,n,acc,ha,h=>by
  have hl:1<=acc.length:=by
   cases acc with
   |nil=>exact ZB rfl ha
   |cons _ _=>simp
  rw[iM];by_cases hn:n=0
  .rw[Zp (by omega),Zu hn];rfl
  .have h2:n/10<10^f:=by rw[Zc.pow_succ]at h;omega
   rw[Zu (.inl (by omega)),Qc f (n/10) _ (by simp) h2,Zp hn];by_cases lp:n<10
   .rw[Zu (by omega),Lib.decDigits_one lp,show n%10=n by omega];rfl
   .rw[Zp (by omega)]
    conv=>rhs;rw[Lib.decDigits,dif_neg lp]
    simp
theorem yV(h:acc.length<least):iM (f+1) n least acc=iM f (n/10) least (Zt (48+n%10)::acc):=by rw[iM,Zu (.inr h)]
theorem abJ(h:least<=acc.length):iM (f+1) 0 least acc=acc:=by rw[iM,Zp (by omega)]
theorem Qb(n:Zc)(h:n<10^39):bW n 1=Lib.decDigits n:=by
 rw[bW,show iM 40 n 1 []=_ from yV (f:=39) (by simp),Qc 39 (n/10) _ (by simp) (by omega)];by_cases lp:n<10
 .rw[Zu (by omega),Lib.decDigits_one lp,show n%10=n by omega];rfl
 .rw[Zp (by omega)]
  conv=>rhs;rw[Lib.decDigits,dif_neg lp]
theorem Bl(a r:Zc)(h:1<=a):Lib.decDigits (a*10+r%10)=Lib.decDigits a++[Zt (48+r%10)]:=by
 rw[Lib.decDigits,dif_neg (by omega),show(a*10+r%10)/10=a by omega,show(a*10+r%10)%10=r%10 by omega]
theorem GQ(r:Zc)(h:r<1000000):Lib.decDigits (1000000+r)=49::bW r 6/\(bW r 6).length=6/\bW r 6=[Zt (48+r/10/10/10/10/10%10),Zt (48+r/10/10/10/10%10),Zt (48+r/10/10/10%10),Zt (48+r/10/10%10),Zt (48+r/10%10),Zt (48+r%10)]:=by
 rw[bW];rw[show iM 40 r 6 []=_ from yV (f:=39) (by simp),show ∀x y,iM 39 x 6 [y]=_ from λx y=>yV (f:=38) (by simp),show ∀x a b,iM 38 x 6 [a,b]=_ from λx a b=>yV (f:=37) (by simp),
  show ∀x a b c,iM 37 x 6 [a,b,c]=_ from λx a b c=>yV (f:=36) (by simp),show ∀x a b c d,iM 36 x 6 [a,b,c,d]=_ from λx a b c d=>yV (f:=35) (by simp),show ∀x a b c d e,iM 35 x 6 [a,b,c,d,e]=_ from λx a b c d e=>yV (f:=34) (by simp),
  show r/10/10/10/10/10/10=0 by omega,show ∀a b c d e g,iM 34 0 6 [a,b,c,d,e,g]=_ from λa b c d e g=>abJ (f:=33) (by simp)]
 have e1:1000000+r=(100000+r/10)*10+r%10:=by omega
 have e2:100000+r/10=(10000+r/10/10)*10+r/10%10:=by omega
 have e3:10000+r/10/10=(1000+r/10/10/10)*10+r/10/10%10:=by omega
 have e4:1000+r/10/10/10=(100+r/10/10/10/10)*10+r/10/10/10%10:=by omega
 have e5:100+r/10/10/10/10=(10+r/10/10/10/10/10)*10+r/10/10/10/10%10:=by omega
 have e6:10+r/10/10/10/10/10=1*10+r/10/10/10/10/10%10:=by omega
 rw[e1,Bl _ _ (by omega),e2,Bl _ _ (by omega),e3,Bl _ _ (by omega),e4,Bl _ _ (by omega),e5,Bl _ _ (by omega),e6,Bl _ _ (by omega),Lib.decDigits_one (by omega)];exact⟨rfl,rfl,rfl⟩
theorem Qg:∀(l:Ze Zg),l.dropWhile (λc=>c==48)=[]->∀c∈l,c=48
 |[],_,c,hc=>by simp at hc
 |a::l,h,c,hc=>by
  by_cases ha:a=48
  .rw[Ze.dropWhile_cons_of_pos (by simpa using ha)]at h;rcases Ze.mem_cons.1 hc with e|e
   .rw[e];exact ha
   .exact Qg l h c e
  .rw[Ze.dropWhile_cons_of_neg (by simpa using ha)]at h;simp at h
theorem u48{d:Zc}(hd:d<10)(h:Zt (48+d)=48):d=0:=by
 have:=ZD Zg.toNat h;rw[Zg.toNat_ofNat']at this;have h2:(48:Zg).toNat=48:=rfl;omega
theorem Vb{r:Zc}(h:r<1000000)(h0:r≠0):d8 (bW r 6)≠[]:=by
 intro e;have cG:∀c∈bW r 6,c=48:=by
  intro c hc;unfold d8 at e;rw[Ze.reverse_eq_nil_iff]at e;have hx:c∈(bW r 6).reverse:=by simpa using hc
  exact Qg _ e c hx
 rw[(GQ r h).2.2]at cG;have a1:=u48 (by omega) (cG _ (Ze.mem_cons_self ..));have a2:=u48 (d:=r/10/10/10/10%10) (by omega) (cG _ (by simp));have a3:=u48 (d:=r/10/10/10%10) (by omega) (cG _ (by simp));have a4:=u48 (d:=r/10/10%10) (by omega) (cG _ (by simp));have a5:=u48 (d:=r/10%10) (by omega) (cG _ (by simp));have a6:=u48 (d:=r%10) (by omega) (cG _ (by simp));omega
def lj (N : Zc) (w : Zf): Prop := Lib.TabBelow prog N w "internal/strconv.uint64pow10" .u64 Lib.pow10Tab
theorem Pn(m:Zc)(hm:m<10000000000)(w:Zf)(N:Zc)(out:Zd)(l:Ze Zg)(hN:N<=w.heap.size)(am:OB w N out l)(az:l.length<=900000)(hp:lj N w):
 Zn prog 74 #[out,.int .i64 (m:Zb),.int .i64 10] w λe w'=>∃out',e=.returned out'/\OB w' N out' (l++bW m 1)/\O N w w'/\N<=w'.heap.size:=by
 refine(Tryz.strconv_AppendInt_10 N l.length (m:Zb) (by omega) (by omega) out (bv l) w am hN (by omega) hp).mono ?_;rintro e w' ⟨v',rfl,h1,h2,_⟩;refine⟨v',rfl,?_,h2,Zy hN h2.size⟩;rw[Lib.itoa_nonneg]at h1;show Zf.ownsRow _ _ _ _ _ _ _;rw[Qb m (by omega),Zr,tZ];exact h1
theorem QD(r:Zc)(hr:r<1000000)(w:Zf)(N:Zc)(hN:N<=w.heap.size)(hp:lj N w):
 Zn prog 75 #[.int .i64 (1000000+(r:Zb)),.int .i64 10] w λe w'=>(∃t,e=.returned (.string (bs t))/\t.drop 1=bW r 6/\t.length=7)/\O w.heap.size w w':=by
 refine(Tryz.strconv_FormatInt_10 (1000000+(r:Zb)) (by omega) (by omega) w hp.here).mono ?_;rintro e w' ⟨rfl,k,os,rfl⟩;obtain⟨h1,h2,_⟩:=GQ r hr;refine⟨⟨Lib.decDigits (1000000+r),?_,by rw[h1];rfl,by rw[h1];simp[h2]⟩,Lib.below_grow _ _ (Z4 _) _ _⟩;rw[show(1000000+(r:Zb))=((1000000+r:Zc):Zb) by omega,Lib.itoa_nonneg];rfl
theorem KF:∀(f n least:Zc) (acc:Ze Zg),(iM f n least acc).length<=f+acc.length
 |0,n,least,acc=>by rw[iM];omega
 |f+1,n,least,acc=>by
  rw[iM];split
  .have:=KF f (n/10) least (Zt (48+n%10)::acc);simp only[Zv]at this;omega
  .omega
theorem VB(t:Ze Zg)(w:Zf)(hl:t.length<=100000):Zn prog 76 #[.string (bs t),.string ⟨#[48]⟩] w λe w'=>e=.returned (.string (bs (d8 t)))/\w=w':=by
 refine(Tryz.strings_TrimRight_one (bs t) 48 (by decide) w (by rw[eO];omega)).mono ?_;rintro e w' ⟨rfl,rfl⟩;exact⟨by simp[bs];rfl,rfl⟩
theorem aaY(m:Zc)(hm:m<=1000000000000000)(w:Zf)(N:Zc)(out:Zd)(l:Ze Zg)(hN:N<=w.heap.size)(am:OB w N out l)(az:l.length<=800000)(hp:lj N w):
 Zn prog 45 #[out,.int .i64 (m:Zb)] w λe w'=>∃out',e=.returned out'/\OB w' N out' (l++lG (m:Zb))/\O N w w'/\N<=w'.heap.size:=by
 have HP:XX (lj N w):=hp;have HO:XX (OB w N out l):=am;obtain⟨q,hq⟩:∃q,q=m/1000000:=⟨_,rfl⟩
 obtain⟨r,hr⟩:∃r,r=m%1000000:=⟨_,rfl⟩
 have BS:(m:Zb)=(q:Zb)*1000000+(r:Zb):=by omega
 have vP:r<1000000:=by omega
 have BZ:(m:Zb).tdiv 1000000=(q:Zb):=by rw[ZN (by omega)];omega
 have xA:(m:Zb).tmod 1000000=(r:Zb):=by rw[ZO (by omega)];omega
 have hqb:q<=1000000000:=by omega
 have HB:XX (lG (m:Zb)=bW q 1++(if d8 (bW r 6)=[]then[]else 46::d8 (bW r 6))):=by
  show _=_;rw[lG,Zp (by omega),Ze.nil_append,show(m:Zb).natAbs=m from rfl,hq,hr]
 clear hp am hq hr BS;go_enter func45,ntmps45;go_wp2_with fail;refine(Pn q (by omega) w N out l hN HO.o (by omega) HP.o).mono ?_;rintro e w1 ⟨o1,rfl,cE,ae,ay⟩;have lK:(bW q 1).length<=40:=KF 40 q 1 [];by_cases hr:r=0
 .subst hr;have HF:XX (l++bW q 1=l++lG (m:Zb)):=by show _=_;rw[HB.o,Zu (by decide)];simp
  go_wp2_with fail;go_ret;exact⟨o1,rfl,HF.o▸cE,ae,ay⟩
 .have hrb:((r:Zb)==0)=Zj:=ZK.2 (by omega);have HF:XX (l++bW q 1++[46]++d8 (bW r 6)=l++lG (m:Zb)):=by show _=_;rw[HB.o,Zp (Vb vP hr)];simp
  have aX:XX (lj N w1):=HP.o.on ae;go_wp2_with fail;refine(QD r vP w1 N ay aX.o).mono ?_;rintro e w2 ⟨⟨t,rfl,gq,mg⟩,ah⟩;have szt:(bs t).size=7:=by rw[eO];exact mg
  have Fg:(bs t).extract 1 7=bs (bW r 6):=by
   rw[<-gq];apply ZM
   rw[ZL];simp[bs,ZU,<-mg];exact ZC (by simp)
  have Ke:XX ((bs t).extract 1 7=bs (bW r 6)):=Fg;have h6:(bW r 6).length=6:=(GQ r vP).2.1;have bZ:O N w w2:=ae.trans (ah.mono ay);have cB:N<=w2.heap.size:=Zy ay ah.size;have dH:OB w2 N o1 (l++bW q 1):=
   Z7 (row:=Zh) cE ⟨ah.os,ah.tape,ah.output,ah.size,λk hk _=>ah.block k hk⟩ (by
    cases hv:o1.ownBlock with
    |none=>exact Or.inl rfl
    |some g=>right;simp)
  clear Fg gq mg ah cE;go_wp2_with (at_builtin;refine dz rfl (.tmp 27) (.tmp 28) rfl N o1 (l++bW q 1) rfl ?h1 _ _ _ [46] rfl rfl ?h2 ?h3 ?h4 ?_)
  case h1=>exact dH.alloc _
  case h2=>exact cX rfl _ _ rfl
  case h3=>simp;omega
  case h4=>simp;omega
  intro o3 w3 bz an;have jW:O N w w3:=(bZ.alloc cB _).grown an (by simp;omega) dH.below;have bm:N<=w3.heap.size:=by have:=an.size;simp at this;omega
  clear an dH;go_wp2_with fail;rw[Ke.o];refine(VB (bW r 6) _ (by omega)).mono ?_;rintro e w4 ⟨rfl,rfl⟩;have iE:(bs (d8 (bW r 6))).size<=6:=by
   rw[eO];have:(d8 (bW r 6)).length<=(bW r 6).length:=by
    unfold d8;rw[ZE];have:=(ZP (λc:Zg=>c==48) (l:=(bW r 6).reverse)).length_le;rw[ZE]at this;exact this
   omega
  go_wp2_with (at_builtin;refine rk rfl (.tmp 30) (.tmp 32) rfl N o3 (l++bW q 1++[46]) rfl ?k1 (bs (d8 (bW r 6))) rfl ?k2 ?k3 ?_)
  case k1=>simpa using bz
  case k2=>simp;omega
  case k3=>exact bm
  intro o5 w5 jC bK;have jm:O N w w5:=jW.grown bK bm bz.below;have im:N<=w5.heap.size:=Zy bm bK.size;clear bK;go_wp2_with fail;go_ret;refine⟨o5,rfl,?_,jm,im⟩;rw[<-HF.o];simpa[bs]using jC
theorem aaX(m:Zc)(h0:0<m)(hm:m<=1000000000000000)(w:Zf)(N:Zc)(out:Zd)(l:Ze Zg)(hN:N<=w.heap.size)(am:OB w N out l)(az:l.length<=700000)(hp:lj N w):
 Zn prog 45 #[out,.int .i64 (-(m:Zb))] w λe w'=>∃out',e=.returned out'/\OB w' N out' (l++lG (-(m:Zb)))/\O N w w'/\N<=w'.heap.size:=by
 have HP:XX (lj N w):=hp;have HO:XX (OB w N out l):=am;obtain⟨q,hq⟩:∃q,q=m/1000000:=⟨_,rfl⟩
 obtain⟨r,hr⟩:∃r,r=m%1000000:=⟨_,rfl⟩
 have BS:(m:Zb)=(q:Zb)*1000000+(r:Zb):=by omega
 have vP:r<1000000:=by omega
 have BZ:(m:Zb).tdiv 1000000=(q:Zb):=by rw[ZN (by omega)];omega
 have xA:(m:Zb).tmod 1000000=(r:Zb):=by rw[ZO (by omega)];omega
 have hqb:q<=1000000000:=by omega
 have HB:XX (lG (-(m:Zb))=[45]++bW q 1++(if d8 (bW r 6)=[]then[]else 46::d8 (bW r 6))):=by
  show _=_;rw[lG,Zu (by omega),show(-(m:Zb)).natAbs=m by omega,hq,hr]
 clear hp am hq hr BS;go_enter func45,ntmps45;go_wp2_with (at_builtin;refine dz rfl (.tmp 9) (.tmp 10) rfl N out l rfl ?n1 _ _ _ [45] rfl rfl ?n2 ?n3 ?n4 ?_)
 case n1=>exact HO.o.alloc _
 case n2=>exact cX rfl _ _ rfl
 case n3=>simp;omega
 case n4=>simp;omega
 intro o0 w0 qc LN;have pT:O N w w0:=((Zi N w).alloc hN _).grown LN (by simp;omega) HO.o.below;have Ih:N<=w0.heap.size:=by have:=LN.size;simp at this;omega
 have nN:XX (lj N w0):=HP.o.on pT;clear LN;go_wp2_with fail;refine(Pn q (by omega) w0 N o0 (l++[45]) Ih qc (by simp;omega) nN.o).mono ?_;rintro e w1 ⟨o1,rfl,cE,Rk,ay⟩;have ae:O N w w1:=pT.trans Rk;clear Rk qc;have lK:(bW q 1).length<=40:=KF 40 q 1 [];by_cases hr:r=0
 .subst hr;have HF:XX (l++[45]++bW q 1=l++lG (-(m:Zb))):=by show _=_;rw[HB.o,Zu (by decide)];simp
  go_wp2_with fail;go_ret;exact⟨o1,rfl,HF.o▸cE,ae,ay⟩
 .have hrb:((r:Zb)==0)=Zj:=ZK.2 (by omega);have HF:XX (l++[45]++bW q 1++[46]++d8 (bW r 6)=l++lG (-(m:Zb))):=by show _=_;rw[HB.o,Zp (Vb vP hr)];simp
  have aX:XX (lj N w1):=HP.o.on ae;go_wp2_with fail;refine(QD r vP w1 N ay aX.o).mono ?_;rintro e w2 ⟨⟨t,rfl,gq,mg⟩,ah⟩;have szt:(bs t).size=7:=by rw[eO];exact mg
  have Fg:(bs t).extract 1 7=bs (bW r 6):=by
   rw[<-gq];apply ZM
   rw[ZL];simp[bs,ZU,<-mg];exact ZC (by simp)
  have Ke:XX ((bs t).extract 1 7=bs (bW r 6)):=Fg;have h6:(bW r 6).length=6:=(GQ r vP).2.1;have bZ:O N w w2:=ae.trans (ah.mono ay);have cB:N<=w2.heap.size:=Zy ay ah.size;have dH:OB w2 N o1 (l++[45]++bW q 1):=
   Z7 (row:=Zh) cE ⟨ah.os,ah.tape,ah.output,ah.size,λk hk _=>ah.block k hk⟩ (by
    cases hv:o1.ownBlock with
    |none=>exact Or.inl rfl
    |some g=>right;simp)
  clear Fg gq mg ah cE;go_wp2_with (at_builtin;refine dz rfl (.tmp 27) (.tmp 28) rfl N o1 (l++[45]++bW q 1) rfl ?h1 _ _ _ [46] rfl rfl ?h2 ?h3 ?h4 ?_)
  case h1=>exact dH.alloc _
  case h2=>exact cX rfl _ _ rfl
  case h3=>simp;omega
  case h4=>simp;omega
  intro o3 w3 bz an;have jW:O N w w3:=(bZ.alloc cB _).grown an (by simp;omega) dH.below;have bm:N<=w3.heap.size:=by have:=an.size;simp at this;omega
  clear an dH;go_wp2_with fail;rw[Ke.o];refine(VB (bW r 6) _ (by omega)).mono ?_;rintro e w4 ⟨rfl,rfl⟩;have iE:(bs (d8 (bW r 6))).size<=6:=by
   rw[eO];have:(d8 (bW r 6)).length<=(bW r 6).length:=by
    unfold d8;rw[ZE];have:=(ZP (λc:Zg=>c==48) (l:=(bW r 6).reverse)).length_le;rw[ZE]at this;exact this
   omega
  go_wp2_with (at_builtin;refine rk rfl (.tmp 30) (.tmp 32) rfl N o3 (l++[45]++bW q 1++[46]) rfl ?k1 (bs (d8 (bW r 6))) rfl ?k2 ?k3 ?_)
  case k1=>simpa using bz
  case k2=>simp;omega
  case k3=>exact bm
  intro o5 w5 jC bK;have jm:O N w w5:=jW.grown bK bm bz.below;have im:N<=w5.heap.size:=Zy bm bK.size;clear bK;go_wp2_with fail;go_ret;refine⟨o5,rfl,?_,jm,im⟩;rw[<-HF.o];simpa[bs]using jC
def Jf:Ze Zg:=[116,114,117,101]
def G7:Ze Zg:=[102,97,108,115,101]
theorem afp(t:Bool)(w:Zf)(N:Zc)(out:Zd)(l:Ze Zg)(hN:N<=w.heap.size)(am:OB w N out l)(az:l.length<=900000):
 Zn prog 73 #[out,.bool t] w λe w'=>∃out',e=.returned out'/\OB w' N out' (l++(if t then Jf else G7))/\O N w w'/\N<=w'.heap.size:=by
 cases t
 .go_enter func73,ntmps73;go_wp2_with (at_builtin;refine rk rfl (.tmp 8) (.const (.string ⟨#[102,97,108,115,101]⟩)) rfl N out l rfl ?k1 ⟨#[102,97,108,115,101]⟩ rfl ?k2 ?k3 ?_)
  case k1=>exact am
  case k2=>show l.length+5<=1000000;omega
  case k3=>exact hN
  intro o5 w5 jC bK;have jm:O N w w5:=(Zi N w).grown bK hN am.below;have im:N<=w5.heap.size:=Zy hN bK.size;clear bK;go_wp2_with fail;go_ret;exact⟨o5,rfl,jC,jm,im⟩
 .go_enter func73,ntmps73;go_wp2_with (at_builtin;refine rk rfl (.tmp 6) (.const (.string ⟨#[116,114,117,101]⟩)) rfl N out l rfl ?k1 ⟨#[116,114,117,101]⟩ rfl ?k2 ?k3 ?_)
  case k1=>exact am
  case k2=>show l.length+4<=1000000;omega
  case k3=>exact hN
  intro o5 w5 jC bK;have jm:O N w w5:=(Zi N w).grown bK hN am.below;have im:N<=w5.heap.size:=Zy hN bK.size;clear bK;go_wp2_with fail;go_ret;exact⟨o5,rfl,jC,jm,im⟩
theorem aaQ(t:Bool)(w:Zf)(N:Zc)(out:Zd)(l:Ze Zg)(hN:N<=w.heap.size)(am:OB w N out l)(az:l.length<=900000):
 Zn prog 44 #[out,.bool t] w λe w'=>∃out',e=.returned out'/\OB w' N out' (l++(if t then Jf else G7))/\O N w w'/\N<=w'.heap.size:=by
 cases t
 all_goals
  go_enter func44,ntmps44;go_wp2_with fail;refine(afp _ w N out l hN am az).mono ?_;rintro e w1 ⟨o1,rfl,h1,h2,h3⟩;go_wp2_with fail;go_ret;exact⟨o1,rfl,h1,h2,h3⟩
theorem lj.on(h:lj N w)(hb:O N w w'):lj N w':=Lib.TabBelow.on h hb
theorem ajb(v:Zd)(w:Zf):(Zk (.iface 75 v) 27 77 Za).run prog w=.ok (.tuple #[.bool Zj,.bool Zj]) w:=by kernel_rfl
theorem ajd(v:Zd)(w:Zf):(Zk (.iface 75 v) 27 97 Za).run prog w=.ok (.tuple #[.int .i64 0,.bool Zj]) w:=by kernel_rfl
theorem ajf(v:Zd)(w:Zf):(Zk (.iface 75 v) 27 80 Za).run prog w=.ok (.tuple #[.string ⟨#[]⟩,.bool Zj]) w:=by kernel_rfl
theorem ajc(v:Zd)(w:Zf):(Zk (.iface 75 v) 27 101 Za).run prog w=.ok (.tuple #[.slice Zh 0 0,.bool Zj]) w:=by kernel_rfl
theorem aje(v:Zd)(w:Zf):(Zk (.iface 75 v) 27 104 Za).run prog w=.ok (.tuple #[.slice Zh 0 0,.bool Zj]) w:=by kernel_rfl
theorem aiW(v:Zd)(w:Zf):(Zk (.iface 77 v) 27 77 Za).run prog w=.ok (.tuple #[v,.bool Za]) w:=by kernel_rfl
theorem ai1(v:Zd)(w:Zf):(Zk (.iface 97 v) 27 77 Za).run prog w=.ok (.tuple #[.bool Zj,.bool Zj]) w:=by kernel_rfl
theorem ai2(v:Zd)(w:Zf):(Zk (.iface 97 v) 27 97 Za).run prog w=.ok (.tuple #[v,.bool Za]) w:=by kernel_rfl
theorem ai8(v:Zd)(w:Zf):(Zk (.iface 80 v) 27 77 Za).run prog w=.ok (.tuple #[.bool Zj,.bool Zj]) w:=by kernel_rfl
theorem ai9(v:Zd)(w:Zf):(Zk (.iface 80 v) 27 97 Za).run prog w=.ok (.tuple #[.int .i64 0,.bool Zj]) w:=by kernel_rfl
theorem aja(v:Zd)(w:Zf):(Zk (.iface 80 v) 27 80 Za).run prog w=.ok (.tuple #[v,.bool Za]) w:=by kernel_rfl
theorem aiX(v:Zd)(w:Zf):(Zk (.iface 101 v) 27 77 Za).run prog w=.ok (.tuple #[.bool Zj,.bool Zj]) w:=by kernel_rfl
theorem aiZ(v:Zd)(w:Zf):(Zk (.iface 101 v) 27 97 Za).run prog w=.ok (.tuple #[.int .i64 0,.bool Zj]) w:=by kernel_rfl
theorem ai0(v:Zd)(w:Zf):(Zk (.iface 101 v) 27 80 Za).run prog w=.ok (.tuple #[.string ⟨#[]⟩,.bool Zj]) w:=by kernel_rfl
theorem aiY(v:Zd)(w:Zf):(Zk (.iface 101 v) 27 101 Za).run prog w=.ok (.tuple #[v,.bool Za]) w:=by kernel_rfl
theorem ai3(v:Zd)(w:Zf):(Zk (.iface 104 v) 27 77 Za).run prog w=.ok (.tuple #[.bool Zj,.bool Zj]) w:=by kernel_rfl
theorem ai5(v:Zd)(w:Zf):(Zk (.iface 104 v) 27 97 Za).run prog w=.ok (.tuple #[.int .i64 0,.bool Zj]) w:=by kernel_rfl
theorem ai7(v:Zd)(w:Zf):(Zk (.iface 104 v) 27 80 Za).run prog w=.ok (.tuple #[.string ⟨#[]⟩,.bool Zj]) w:=by kernel_rfl
theorem ai4(v:Zd)(w:Zf):(Zk (.iface 104 v) 27 101 Za).run prog w=.ok (.tuple #[.slice Zh 0 0,.bool Zj]) w:=by kernel_rfl
theorem ai6(v:Zd)(w:Zf):(Zk (.iface 104 v) 27 104 Za).run prog w=.ok (.tuple #[v,.bool Za]) w:=by kernel_rfl
def DQ(n:Zc):Prop:=
 ∀(v:VT n) (x:Zd) (w:Zf) (N:Zc) (out:Zd) (l:Ze Zg),db n w (λm=>m<N) v x->fV n v->N<=w.heap.size->OB w N out l->lj N w->l.length+(aF n v).length<=600000 ->
  Zn prog 22 #[out,x] w λe w'=>∃out',e=.returned out'/\OB w' N out' (l++aF n v)/\O N w w'/\N<=w'.heap.size
theorem Uq(lf:Lf)(w:Zf)(N:Zc)(out:Zd)(l:Ze Zg)(be:DM lf)(hN:N<=w.heap.size)(am:OB w N out l)(hp:lj N w)(az:l.length+(tp lf).length<=600000):
 Zn prog 22 #[out,mV lf] w λe w'=>∃out',e=.returned out'/\OB w' N out' (l++tp lf)/\O N w w'/\N<=w'.heap.size:=by
 match lf,be,az with
 |Zz _,be,az=>
  have zz:l.length<=600000:=by omega
  have HO:XX (OB w N out l):=am;rw[mV];clear be az am hp;have ta_UB':=ajb;have ta_UN':=ajd;have ta_US':=ajf;have ta_UL':=ajc;have ta_UO':=aje;go_enter func22,ntmps22;go_wp2_with (at_builtin;go_loud (refine rk rfl _ _ rfl N out l rfl HO.o ⟨#[110,117,108,108]⟩ rfl ?h3 hN ?_))
  case h3=>show l.length+4<=1000000;omega
  intro v' w4 aN an;go_wp2;go_ret;exact⟨v',rfl,aN,(Zi N w).grown an hN HO.o.below,Zy hN an.size⟩
 |Zm (Zz t),be,az=>
  have HT:XX (tp (Zm (Zz t))=if t then Jf else G7):=by cases t <;> rfl
  have HQ:=aaQ t w N out l hN am (by omega);rw[HT.o];obtain⟨TL,Q7⟩:∃TL,TL=(if t=Za then Jf else G7):=⟨_,rfl⟩
  rw[<-Q7]at HQ⊢;clear HT Q7;have Dz:=gp HQ;rw[mV];clear be az am hp HQ;have ta_BB':=aiW;go_enter func22,ntmps22;go_wp2_with fail;refine Dz.o.mono ?_;rintro e w2 ⟨o2,rfl,h2⟩;go_wp2;go_ret;exact⟨o2,rfl,h2⟩
 |Zm (Zm (Zz n)),be,az=>
  have uq:-1000000000000000<=n/\n<=1000000000000000:=be;have HQ:Zn prog 45 #[out,.int .i64 n] w λe w'=>∃out',e=.returned out'/\OB w' N out' (l++lG n)/\O N w w'/\N<=w'.heap.size:=by
   by_cases h0:0<=n
   .have:=aaY n.toNat (by omega) w N out l hN am (by omega) hp;rw[show((n.toNat:Zc):Zb)=n by omega]at this;exact this
   .have:=aaX (-n).toNat (by omega) (by omega) w N out l hN am (by omega) hp;rw[show -(((-n).toNat:Zc):Zb)=n by omega]at this;exact this
  have Dz:=gp HQ;have HT:XX (tp (Zm (Zm (Zz n)))=lG n):=rfl;rw[HT.o,mV];clear be uq az am hp HQ;have ta_NB':=ai1;have ta_NN':=ai2;go_enter func22,ntmps22;go_wp2_with fail;refine Dz.o.mono ?_;rintro e w2 ⟨o2,rfl,h2⟩;go_wp2;go_ret;exact⟨o2,rfl,h2⟩
 |Zm (Zm (Zm s)),be,az=>
  have uq:s.size<=100000:=be;have zz:l.length+(dt s.data.toList).length<=600000:=az;have HQ:Zn prog 46 #[out,.string s] w λe w'=>∃out',e=.returned out'/\OB w' N out' (l++dt s.data.toList)/\O N w w'/\N<=w'.heap.size:=(Ko s w N out l hN am uq (by omega)).mono (λe w' ⟨o,h1,h2,h3,h4,_⟩=>⟨o,h1,h2,h3,h4⟩)
  have Dz:=gp HQ;have HT:XX (tp (Zm (Zm (Zm s)))=dt s.data.toList):=rfl;rw[HT.o,mV];clear be uq az zz am hp HQ;have ta_SB':=ai8;have ta_SN':=ai9;have ta_SS':=aja;go_enter func22,ntmps22;go_wp2_with fail;refine Dz.o.mono ?_;rintro e w2 ⟨o2,rfl,h2⟩;go_wp2;go_ret;exact⟨o2,rfl,h2⟩
theorem ah6(n:Zc)(ih:DQ n)(vs:Ze (VT n))(sl:Zd)(xs:Ze Zd)(w:Zf)(N:Zc)(out:Zd)(l:Ze Zg)(aO:ao w 27 sl xs)(lL:∀g,sl.ownBlock=Zo g->g<N)(cG:bO (db n w (λm=>m<N)) vs xs)(be:∀x∈vs,fV n x)(hN:N<=w.heap.size)(am:OB w N out l)(hp:lj N w)(az:l.length+(91::ci Za (vs.map (aF n))++[93]).length<=600000):
 Zn prog 47 #[out,sl] w λe w'=>∃out',e=.returned out'/\OB w' N out' (l++(91::ci Za (vs.map (aF n))++[93]))/\O N w w'/\N<=w'.heap.size:=by
 have iQ:=aO.maxlen;have oJ:=cG.length;have ry:=aO.len;have uN:XX (bO (db n w (λm=>m<N)) vs xs):=cG;have gQ:XX (∀x∈vs,fV n x):=be;have nf:XX (DQ n):=ih;have qv:XX (vs.length=xs.length):=oJ;have sA:XX (lj N w):=hp;have j8:XX (l.length+(91::ci Za (vs.map (aF n))++[93]).length<=600000):=az;unfold maxLen at iQ;have mc:l.length<=599998:=by have:=j8.o;simp at this;omega
 obtain⟨P,hP⟩:∃P,P=l++(91::ci Za (vs.map (aF n))++[93]):=⟨_,rfl⟩
 have HP:XX (P=l++(91::ci Za (vs.map (aF n))++[93])):=hP;rw[<-hP];have HC:XX (∀g cap,sl=.slice (Zo ⟨g,0,Zh⟩) xs.length cap->g<N/\∀i u,xs[i]?=Zo u->w.cell? ⟨g,i,Zh⟩=Zo u):=by
  intro g cap e;subst e;exact⟨lL g rfl,λi u hu=>aO.get hu⟩
 rcases ry with⟨rfl,rK⟩|⟨gl,capl,rfl,rx⟩
 .subst rK;have SM:vs=[]:=ZQ (by simpa using oJ);have HF:XX (P=l++[91]++[93]):=by show _=_;rw[HP.o,SM];simp[ci]
  clear aO lL cG be ih oJ az hP hp SM uN HC;go_enter func47,ntmps47;go_wp2_with (at_builtin;refine dz rfl (.tmp 7) (.tmp 8) rfl N out l rfl ?h1 _ _ _ [91] rfl rfl ?h2 ?h3 ?h4 ?_)
  case h1=>exact am.alloc _
  case h2=>exact cX rfl _ _ rfl
  case h3=>simp;omega
  case h4=>simp;omega
  intro v1 w1 cE bX;have je:O N w w1:=((Zi N w).alloc hN _).grown bX (by simp;omega) am.below;have io:N<=w1.heap.size:=by have:=bX.size;simp at this;omega
  clear bX;go_wp2_with fail;go_loopg [0,12] 1 (λg ov iv wr=>ov=v1/\iv=.int .i64 0/\wr=w1)
  case atStart=>exact⟨rfl,rfl,rfl⟩
  case round=>
   obtain⟨rfl,rfl,rfl⟩:=hrel;go_wp2_with (at_builtin;refine dz rfl (.tmp 26) (.tmp 27) rfl N _ (l++[91]) rfl ?j1 _ _ _ [93] rfl rfl ?j2 ?j3 ?j4 ?_)
   case j1=>exact cE.alloc _
   case j2=>exact cX rfl _ _ rfl
   case j3=>simp;omega
   case j4=>simp;omega
   intro v3 w3 bz aP;have dr:O N wr w3:=((Zi N wr).alloc io _).grown aP (by simp;omega) cE.below;have eC:N<=w3.heap.size:=by have:=aP.size;simp at this;omega
   have Mc:OB w3 N v3 P:=by rw[HF.o];simpa using bz
   clear aP bz;go_wp2;go_ret;exact⟨v3,rfl,Mc,je.trans dr,eC⟩
 .have sU:gl<N:=lL gl rfl;clear aO lL cG be ih oJ az hP hp;go_enter func47,ntmps47;go_wp2_with (at_builtin;refine dz rfl (.tmp 7) (.tmp 8) rfl N out l rfl ?h1 _ _ _ [91] rfl rfl ?h2 ?h3 ?h4 ?_)
  case h1=>exact am.alloc _
  case h2=>exact cX rfl _ _ rfl
  case h3=>simp;omega
  case h4=>simp;omega
  intro v1 w1 cE bX;have je:O N w w1:=((Zi N w).alloc hN _).grown bX (by simp;omega) am.below;have io:N<=w1.heap.size:=by have:=bX.size;simp at this;omega
  clear bX;go_wp2_with fail;go_loopg [0,12] (xs.length+1) (λg ov iv wr=>∃x:Zc,x<=xs.length/\g=xs.length+1-x/\iv=.int .i64 x/\OB wr N ov (l++91::ci Za ((vs.take x).map (aF n)))/\O N w wr/\N<=wr.heap.size)
  case atStart=>exact⟨0,by omega,by omega,rfl,by simpa[ci]using cE,je,io⟩
  case round=>
   obtain⟨x,hx,hg,rfl,dH,ba,aH⟩:=hrel;have HG:XX (gk=xs.length+1-x):=hg;clear cE je io hg;obtain⟨L,hL⟩:∃L,L=l++91::ci Za ((vs.take x).map (aF n)):=⟨_,rfl⟩
   rw[<-hL]at dH;have HL:XX (L=l++91::ci Za ((vs.take x).map (aF n))):=hL;have El:L.length<=599999:=by
    have h1:=j8.o;have h2:=vX Za (vs.map (aF n)) x;rw[<-Z0]at h2;rw[Zr,Zv,Zw]at h1;rw[hL,Zr,Zv];omega
   clear hL;by_cases ai:x<xs.length
   .obtain⟨a,b,ha,hb,eA⟩:=uN.o.get x (by rw[qv.o];exact ai);have dx:=HC.o gl capl rfl;have cp:=(ba.cell (p:=⟨gl,x,Zh⟩) dx.1).trans (dx.2 x b hb);have sa:XX (db n wr (λm=>m<N) a b):=db.keep n eA (λk hk _=>⟨ba.block k hk,hk⟩);have kB:XX (l++91::ci Za ((vs.take (x+1)).map (aF n))=L++((if x=0 then[]else[44])++aF n a)):=by
     show _=_;rw[UX _ _ _ _ ha,Fl,HL.o];by_cases es:x=0
     .subst es;simp[ci]
     .rw[Zp es];have:((vs.take x).map (aF n)).isEmpty=Zj:=by
       have h1:vs.length=xs.length:=qv.o;rw[ZW];intro e;have h2:=ZD ZI e;rw[ZX,ZZ,ZY]at h2;omega
      rw[this];simp
    have ot:XX ((L++((if x=0 then[]else[44])++aF n a)).length<=599999):=by
     show _<=_;have h1:=j8.o;have h2:=vX Za (vs.map (aF n)) (x+1);rw[<-Z0]at h2;rw[Zr,Zv,Zw]at h1;rw[<-kB.o,Zr,Zv];omega
    have sr:XX (fV n a):=gQ.o a (ZJ ha);have Dy:XX (lj N wr):=sA.o.on ba;clear dx eA ha hb;by_cases es:x=0
    .subst es;have pI:XX (L.length+(aF n a).length<=600000):=by show _<=_;have:=ot.o;simp at this;omega
     have oS:XX (l++91::ci Za ((vs.take (0+1)).map (aF n))=L++aF n a):=by show _=_;rw[kB.o];simp
     go_wp2_with fail;refine(nf.o a b wr N _ L sa.o sr.o aH dH Dy.o pI.o).mono ?_;rintro e w4 ⟨o4,rfl,aN,iP,dk⟩;go_wp2_with fail;go_roundg (xs.length+1-(0+1))
     case measure=>rw[HG.o];omega
     case rel=>exact⟨0+1,by omega,rfl,by go_num,by rw[oS.o];exact aN,ba.trans iP,dk⟩
    .have gX:0<x:=by omega
     have pI:XX ((L++[44]).length+(aF n a).length<=600000):=by show _<=_;have:=ot.o;rw[Zp es]at this;simp at this⊢;omega
     have oS:XX (l++91::ci Za ((vs.take (x+1)).map (aF n))=(L++[44])++aF n a):=by show _=_;rw[kB.o,Zp es];simp
     clear es;go_wp2_with (at_builtin;refine dz rfl (.tmp 19) (.tmp 20) rfl N _ L rfl ?k1 _ _ _ [44] rfl rfl ?k2 ?k3 ?k4 ?_)
     case k1=>exact dH.alloc _
     case k2=>exact cX rfl _ _ rfl
     case k3=>simp;omega
     case k4=>simp;omega
     intro v3 w3 bz aP;have dr:O N wr w3:=((Zi N wr).alloc aH _).grown aP (by simp;omega) dH.below;have eC:N<=w3.heap.size:=by have:=aP.size;simp at this;omega
     have Jz:XX (db n w3 (λm=>m<N) a b):=db.keep n sa.o (λk hk _=>⟨dr.block k hk,hk⟩);clear aP cp;go_wp2_with fail;refine(nf.o a b w3 N _ (L++[44]) Jz.o sr.o eC bz (Dy.o.on dr) pI.o).mono ?_;rintro e w4 ⟨o4,rfl,aN,iP,dk⟩;go_wp2_with fail;go_roundg (xs.length+1-(x+1))
     case measure=>rw[HG.o];omega
     case rel=>exact⟨x+1,by omega,rfl,by go_num,by rw[oS.o];exact aN,(ba.trans dr).trans iP,dk⟩
   .have uw:x=xs.length:=by omega
    have HF:XX (L++[93]=P):=by
     show _=_;rw[HP.o,HL.o,ZC (by rw[qv.o];omega)];simp
    go_wp2_with (at_builtin;refine dz rfl (.tmp 26) (.tmp 27) rfl N _ L rfl ?j1 _ _ _ [93] rfl rfl ?j2 ?j3 ?j4 ?_)
    case j1=>exact dH.alloc _
    case j2=>exact cX rfl _ _ rfl
    case j3=>simp;omega
    case j4=>simp;omega
    intro v3 w3 bz aP;have dr:O N wr w3:=((Zi N wr).alloc aH _).grown aP (by simp;omega) dH.below;have eC:N<=w3.heap.size:=by have:=aP.size;simp at this;omega
    rw[HF.o]at bz;clear aP;go_wp2;go_ret;exact⟨v3,rfl,bz,ba.trans dr,eC⟩
theorem abt(h:w.heap[m]?=Zo (.cells #[x,y] t (0,0))):w.cell? ⟨m,0,Zh⟩=Zo x:=by simp[Z6,h]
theorem GN(h:w.heap[m]?=Zo (.cells #[x,y] t (0,0))):w.cell? ⟨m,1,Zh⟩=Zo y:=by simp[Z6,h]
theorem fM.maxlen{v:Zd}{ks:Ze ZA}{xs:Ze Zd}(h:fM w v ks xs):xs.length<=maxLen:=by
 rcases h.2.2 with⟨h2,h3⟩|⟨g',cap',cur,h2,h0,hg,hc,hm,r⟩
 .omega
 .omega
theorem ak3(ks:Ze ZA)(vs:Ze (VT n))(x:Zc)(k:ZA)(a:VT n)(hk:ks[x]?=Zo k)(ha:vs[x]?=Zo a):
 (Zx iS ks (vs.map (aF n))).take (x+1)=(Zx iS ks (vs.map (aF n))).take x++[iS k (aF n a)]:=by
 apply UW
 simp[Ze.getElem?_zipWith,hk,ha]
theorem ah7(n:Zc)(ih:DQ n)(ks:Ze ZA)(vs:Ze (VT n))(sl:Zd)(xs:Ze Zd)(w:Zf)(N:Zc)(out:Zd)(l:Ze Zg)(jf:fM w sl ks xs)(lL:∀g,sl.ownBlock=Zo g->g<N)(cG:bO (db n w (λm=>m<N)) vs xs)(be:∀x∈vs,fV n x)(hkok:∀k∈ks,k.size<=100000)(hN:N<=w.heap.size)(am:OB w N out l)(hp:lj N w)
 (az:l.length+(123::ci Za (Zx iS ks (vs.map (aF n)))++[125]).length<=600000):
 Zn prog 48 #[out,sl] w λe w'=>∃out',e=.returned out'/\OB w' N out' (l++(123::ci Za (Zx iS ks (vs.map (aF n)))++[125]))/\O N w w'/\N<=w'.heap.size:=by
 have iQ:=jf.maxlen;have oJ:=cG.length;have dO:=jf.1;have ry:=jf.len;have uN:XX (bO (db n w (λm=>m<N)) vs xs):=cG;have gQ:XX (∀x∈vs,fV n x):=be;have JQ:XX (∀k∈ks,k.size<=100000):=hkok;have nf:XX (DQ n):=ih;have qv:XX (vs.length=xs.length/\ks.length=xs.length):=⟨oJ,dO⟩
 have sA:XX (lj N w):=hp;obtain⟨Z,hZ⟩:∃Z,Z=Zx iS ks (vs.map (aF n)):=⟨_,rfl⟩
 have HZ:XX (Z=Zx iS ks (vs.map (aF n))):=hZ;rw[<-hZ]at az⊢;have Kf:XX (Z.length=xs.length):=by show _=_;rw[hZ,Ze.length_zipWith,ZX];omega
 have j8:XX (l.length+(123::ci Za Z++[125]).length<=600000):=az;unfold maxLen at iQ;have mc:l.length<=599998:=by have:=j8.o;simp at this;omega
 obtain⟨P,hP⟩:∃P,P=l++(123::ci Za Z++[125]):=⟨_,rfl⟩
 have HP:XX (P=l++(123::ci Za Z++[125])):=hP;rw[<-hP];have HC:XX (∀g cap,sl=.slice (Zo ⟨g,0,Zh⟩) xs.length cap->g<N/\(∀i k,ks[i]?=Zo k->w.cell? ⟨g,i*2,Zh⟩=Zo (.string k))/\∀i u,xs[i]?=Zo u->w.cell? ⟨g,i*2+1,Zh⟩=Zo u):=by
  intro g cap e;subst e;exact⟨lL g rfl,λi k h=>jf.get (IB ks xs i k dO h),λi u h=>jf.get (MQ ks xs i u dO h)⟩
 rcases ry with⟨rfl,rK⟩|⟨gl,capl,rfl,rx⟩
 .subst rK;have S1:Z=[]:=ZQ (by simpa using Kf.o);have HF:XX (P=l++[123]++[125]):=by show _=_;rw[HP.o,S1];simp[ci]
  clear jf lL cG be hkok ih oJ dO az hP hp S1 uN HC hZ;go_enter func48,ntmps48;go_wp2_with (at_builtin;refine dz rfl (.tmp 7) (.tmp 8) rfl N out l rfl ?h1 _ _ _ [123] rfl rfl ?h2 ?h3 ?h4 ?_)
  case h1=>exact am.alloc _
  case h2=>exact cX rfl _ _ rfl
  case h3=>simp;omega
  case h4=>simp;omega
  intro v1 w1 cE bX;have je:O N w w1:=((Zi N w).alloc hN _).grown bX (by simp;omega) am.below;have io:N<=w1.heap.size:=by have:=bX.size;simp at this;omega
  clear bX;go_wp2_with fail;go_loopg [0,12] 1 (λg ov iv wr=>ov=v1/\iv=.int .i64 0/\wr=w1)
  case atStart=>exact⟨rfl,rfl,rfl⟩
  case round=>
   obtain⟨rfl,rfl,rfl⟩:=hrel;go_wp2_with (at_builtin;refine dz rfl (.tmp 34) (.tmp 35) rfl N _ (l++[123]) rfl ?j1 _ _ _ [125] rfl rfl ?j2 ?j3 ?j4 ?_)
   case j1=>exact cE.alloc _
   case j2=>exact cX rfl _ _ rfl
   case j3=>simp;omega
   case j4=>simp;omega
   intro v3 w3 bz aP;have dr:O N wr w3:=((Zi N wr).alloc io _).grown aP (by simp;omega) cE.below;have eC:N<=w3.heap.size:=by have:=aP.size;simp at this;omega
   have Mc:OB w3 N v3 P:=by rw[HF.o];simpa using bz
   clear aP bz;go_wp2;go_ret;exact⟨v3,rfl,Mc,je.trans dr,eC⟩
 .have sU:gl<N:=lL gl rfl;clear jf lL cG be hkok ih oJ dO az hP hp hZ;go_enter func48,ntmps48;go_wp2_with (at_builtin;refine dz rfl (.tmp 7) (.tmp 8) rfl N out l rfl ?h1 _ _ _ [123] rfl rfl ?h2 ?h3 ?h4 ?_)
  case h1=>exact am.alloc _
  case h2=>exact cX rfl _ _ rfl
  case h3=>simp;omega
  case h4=>simp;omega
  intro v1 w1 cE bX;have je:O N w w1:=((Zi N w).alloc hN _).grown bX (by simp;omega) am.below;have io:N<=w1.heap.size:=by have:=bX.size;simp at this;omega
  clear bX;go_wp2_with fail;go_loopg [0,12] (xs.length+1) (λg ov iv wr=>∃x:Zc,x<=xs.length/\g=xs.length+1-x/\iv=.int .i64 x/\OB wr N ov (l++123::ci Za (Z.take x))/\O N w wr/\N<=wr.heap.size)
  case atStart=>exact⟨0,by omega,by omega,rfl,by simpa[ci]using cE,je,io⟩
  case round=>
   obtain⟨x,hx,hg,rfl,dH,ba,aH⟩:=hrel;have HG:XX (gk=xs.length+1-x):=hg;clear cE je io hg;obtain⟨L,hL⟩:∃L,L=l++123::ci Za (Z.take x):=⟨_,rfl⟩
   rw[<-hL]at dH;have HL:XX (L=l++123::ci Za (Z.take x)):=hL;have El:L.length<=599999:=by
    have h1:=j8.o;have h2:=vX Za Z x;rw[Zr,Zv,Zw]at h1;rw[hL,Zr,Zv];omega
   clear hL;by_cases ai:x<xs.length
   .obtain⟨a,u,ha,hu,eA⟩:=uN.o.get x (by rw[qv.o.1];exact ai);obtain⟨kx,oZ⟩:∃kx,ks[x]?=Zo kx:=⟨ks[x]'(by have:=qv.o.2;omega),Ze.getElem?_eq_getElem _⟩
    have dx:=HC.o gl capl rfl;have cu:=(ba.cell (p:=⟨gl,x*2+1,Zh⟩) dx.1).trans (dx.2.2 x u hu);have ck:=(ba.cell (p:=⟨gl,x*2,Zh⟩) dx.1).trans (dx.2.1 x kx oZ);have sa:XX (db n wr (λm=>m<N) a u):=db.keep n eA (λk hk _=>⟨ba.block k hk,hk⟩);have kN:kx.size<=100000:=JQ.o kx (ZJ oZ);have kB:XX (l++123::ci Za (Z.take (x+1))=L++((if x=0 then[]else[44])++(dt kx.data.toList++[58]++aF n a))):=by
     show _=_;have hz:Z.take (x+1)=Z.take x++[iS kx (aF n a)]:=by rw[HZ.o];exact ak3 ks vs x kx a oZ ha
     rw[hz,Fl,HL.o,iS];by_cases es:x=0
     .subst es;simp[ci]
     .rw[Zp es];have:(Z.take x).isEmpty=Zj:=by
       have h1:Z.length=xs.length:=Kf.o;rw[ZW];intro e;have h2:=ZD ZI e;rw[ZZ,ZY]at h2;omega
      rw[this];simp
    have ot:XX ((L++((if x=0 then[]else[44])++(dt kx.data.toList++[58]++aF n a))).length<=599999):=by
     show _<=_;have h1:=j8.o;have h2:=vX Za Z (x+1);rw[Zr,Zv,Zw]at h1;rw[<-kB.o,Zr,Zv];omega
    have sr:XX (fV n a):=gQ.o a (ZJ ha);have Dy:XX (lj N wr):=sA.o.on ba;have SG:u=.nilIface\/∃t v,u=.iface t v:=db.isif n eA;clear dx eA ha hu oZ;obtain⟨Q,hQ⟩:∃Q,Q=dt kx.data.toList:=⟨_,rfl⟩
    have HQ:XX (Q=dt kx.data.toList):=hQ;rw[<-hQ]at kB ot;clear hQ;by_cases es:x=0
    .subst es;have pI:XX (L.length+Q.length+1+(aF n a).length<=599999):=by show _<=_;have:=ot.o;simp at this;omega
     have oS:XX (l++123::ci Za (Z.take (0+1))=L++Q++[58]++aF n a):=by show _=_;rw[kB.o];simp
     clear kB ot;rcases SG with rfl|⟨tu,vu,rfl⟩
     all_goals
      go_wp2_with fail;refine(Ko kx _ N _ L ?a1 ?a2 kN ?a3).mono ?_
      case a1=>simp;omega
      case a2=>exact dH.alloc _
      case a3=>rw[<-HQ.o];have:=pI.o;omega
      rintro e w4 ⟨o4,rfl,aN,iP,dk,xl⟩;rw[<-HQ.o]at aN;have cd:=xl wr.heap.size _ (aE (W:=wr) rfl) (by simp) (by intro c fz e;injection e with _ e2;exact ZB e2 (by decide));have cu4:=GN cd;have EB:O N wr w4:=((Zi N wr).alloc aH _).trans iP;have hL4:(L++Q).length<=599999:=by have:=pI.o;rw[Zr];omega
      have iy:=gp cd;clear xl iP ck cu cd;go_wp2_with (at_builtin;refine dz rfl (.tmp 26) (.tmp 27) rfl N _ (L++Q) rfl ?k1 _ _ _ [58] rfl rfl ?k2 ?k3 ?k4 ?_)
      case k1=>exact aN.alloc _
      case k2=>exact cX rfl _ _ rfl
      case k3=>rw[Zw];omega
      case k4=>simp;omega
      intro v5 w5 jC bK;have pX:O N w4 w5:=((Zi N w4).alloc dk _).grown bK (by simp;omega) aN.below;have zL:N<=w5.heap.size:=by have:=bK.size;simp at this;omega
      have Ek:Zl 5 Zh w4 w5:=kV ((Zq _ _ w4).alloc _) (aN.alloc _) bK;have cw:=Ek wr.heap.size _ iy.o (by simp) (by intro c fz e;injection e with _ e2;exact ZB e2 (by decide));have cu5:=GN cw;have yg:XX (O N wr w5):=EB.trans pX;have JA:XX (db n w5 (λm=>m<N) a _):=db.keep n sa.o (λk hk _=>⟨yg.o.block k hk,hk⟩);have JX:XX (OB w5 N v5 (L++Q++[58])):=by show OB _ _ _ _;simpa using jC
      clear bK Ek cw iy cu4 EB pX aN;go_wp2_with fail;refine(nf.o a _ w5 N _ (L++Q++[58]) JA.o sr.o zL JX.o (Dy.o.on yg.o) ?b1).mono ?_
      case b1=>have:=pI.o;simp;omega
      rintro e w6 ⟨o6,rfl,vN,Lu,jp⟩;go_wp2_with fail;go_roundg (xs.length+1-(0+1))
      case measure=>rw[HG.o];omega
      case rel=>exact⟨0+1,by omega,rfl,by go_num,by rw[oS.o];exact vN,(ba.trans yg.o).trans Lu,jp⟩
    .have gX:0<x:=by omega
     have pI:XX (L.length+1+Q.length+1+(aF n a).length<=599999):=by show _<=_;have:=ot.o;rw[Zp es]at this;simp at this;omega
     have oS:XX (l++123::ci Za (Z.take (x+1))=L++[44]++Q++[58]++aF n a):=by show _=_;rw[kB.o,Zp es];simp
     clear kB ot es;rcases SG with rfl|⟨tu,vu,rfl⟩
     all_goals
      go_wp2_with (at_builtin;refine dz rfl (.tmp 19) (.tmp 20) rfl N _ L rfl ?c1 _ _ _ [44] rfl rfl ?c2 ?c3 ?c4 ?_)
      case c1=>exact(dH.alloc _).alloc _
      case c2=>exact cX (by simp) _ _ rfl
      case c3=>rw[Zw];omega
      case c4=>simp;omega
      intro v3 w3 bz aP;have dr:O N wr w3:=(((Zi N wr).alloc aH _).alloc (by simp;omega) _).grown aP (by simp;omega) dH.below;have eC:N<=w3.heap.size:=by have:=aP.size;simp at this;omega
      have di:=kV (((Zq _ _ _).alloc _)) ((dH.alloc _).alloc _) aP wr.heap.size _ (aE (W:=wr) rfl) (by simp) (by intro c fz e;injection e with _ e2;exact ZB e2 (by decide));have ck3:=abt di;have yd:=gp di;have hL3:(L++[44]).length+Q.length<=599999:=by have:=pI.o;rw[Zr,Zw];omega
      clear aP ck cu di;go_wp2_with fail;refine(Ko kx w3 N _ (L++[44]) eC bz kN ?a3).mono ?_
      case a3=>rw[<-HQ.o];omega
      rintro e w4 ⟨o4,rfl,aN,iP,dk,xl⟩;rw[<-HQ.o]at aN;have cd:=xl wr.heap.size _ yd.o (by simp) (by intro c fz e;injection e with _ e2;exact ZB e2 (by decide));have cu4:=GN cd;have EB:O N wr w4:=dr.trans iP;have hL4:(L++[44]++Q).length<=599999:=by rw[Zr];omega
      have iy:=gp cd;clear xl iP cd yd ck3;go_wp2_with (at_builtin;refine dz rfl (.tmp 26) (.tmp 27) rfl N _ (L++[44]++Q) rfl ?k1 _ _ _ [58] rfl rfl ?k2 ?k3 ?k4 ?_)
      case k1=>exact aN.alloc _
      case k2=>exact cX rfl _ _ rfl
      case k3=>rw[Zw];omega
      case k4=>simp;omega
      intro v5 w5 jC bK;have pX:O N w4 w5:=((Zi N w4).alloc dk _).grown bK (by simp;omega) aN.below;have zL:N<=w5.heap.size:=by have:=bK.size;simp at this;omega
      have Ek:Zl 5 Zh w4 w5:=kV ((Zq _ _ w4).alloc _) (aN.alloc _) bK;have cw:=Ek wr.heap.size _ iy.o (by simp) (by intro c fz e;injection e with _ e2;exact ZB e2 (by decide));have cu5:=GN cw;have yg:XX (O N wr w5):=EB.trans pX;have JA:XX (db n w5 (λm=>m<N) a _):=db.keep n sa.o (λk hk _=>⟨yg.o.block k hk,hk⟩);have JX:XX (OB w5 N v5 (L++[44]++Q++[58])):=by show OB _ _ _ _;simpa using jC
      clear bK Ek cw iy cu4 EB pX aN dr;go_wp2_with fail;refine(nf.o a _ w5 N _ (L++[44]++Q++[58]) JA.o sr.o zL JX.o (Dy.o.on yg.o) ?b1).mono ?_
      case b1=>have:=pI.o;simp;omega
      rintro e w6 ⟨o6,rfl,vN,Lu,jp⟩;go_wp2_with fail;go_roundg (xs.length+1-(x+1))
      case measure=>rw[HG.o];omega
      case rel=>exact⟨x+1,by omega,rfl,by go_num,by rw[oS.o];exact vN,(ba.trans yg.o).trans Lu,jp⟩
   .have uw:x=xs.length:=by omega
    have HF:XX (L++[125]=P):=by
     show _=_;rw[HP.o,HL.o,ZC (by rw[Kf.o];omega)];simp
    go_wp2_with (at_builtin;refine dz rfl (.tmp 34) (.tmp 35) rfl N _ L rfl ?j1 _ _ _ [125] rfl rfl ?j2 ?j3 ?j4 ?_)
    case j1=>exact dH.alloc _
    case j2=>exact cX rfl _ _ rfl
    case j3=>simp;omega
    case j4=>simp;omega
    intro v3 w3 bz aP;have dr:O N wr w3:=((Zi N wr).alloc aH _).grown aP (by simp;omega) dH.below;have eC:N<=w3.heap.size:=by have:=aP.size;simp at this;omega
    rw[HF.o]at bz;clear aP;go_wp2;go_ret;exact⟨v3,rfl,bz,ba.trans dr,eC⟩
theorem Up:∀n,DQ n
 |0=>by
  intro v x w N out l cH be hN am hp az;have hx:x=mV v:=cH;subst hx;exact Uq v w N out l be hN am hp az
 |n+1=>by
  intro v x w N out l cH be hN am hp az;have ih:=Up n
  match v,cH,be,az with
  |Zz lf,cH,be,az=>
   have hx:x=mV lf:=cH;subst hx;exact Uq lf w N out l be hN am hp az
  |Zm (Zz vs),cH,be,az=>
   obtain⟨sl,xs,rfl,aO,lL,cG⟩:=cH;have HQ:=gp (ah6 n ih vs sl xs w N out l aO lL cG be hN am hp az);have HT:XX (aF (n+1) (Zm (Zz vs))=91::ci Za (vs.map (aF n))++[93]):=rfl;rw[HT.o];obtain⟨P,hP⟩:∃P,P=l++(91::ci Za (vs.map (aF n))++[93]):=⟨_,rfl⟩
   rw[<-hP]at HQ⊢;have t1:=aiX;have t2:=aiZ;have t3:=ai0;have t4:=aiY;clear aO lL cG be az am hp ih hP HT;go_enter func22,ntmps22;go_wp2_with fail;refine HQ.o.mono ?_;rintro e w2 ⟨o2,rfl,h2⟩;go_wp2;go_ret;exact⟨o2,rfl,h2⟩
  |Zm (Zm (ks,vs)),cH,be,az=>
   obtain⟨sl,xs,rfl,jf,lL,cG⟩:=cH;have HQ:=gp (ah7 n ih ks vs sl xs w N out l jf lL cG be.2 be.1 hN am hp az);have HT:XX (aF (n+1) (Zm (Zm (ks,vs)))=123::ci Za (Zx iS ks (vs.map (aF n)))++[125]):=rfl;rw[HT.o];obtain⟨P,hP⟩:∃P,P=l++(123::ci Za (Zx iS ks (vs.map (aF n)))++[125]):=⟨_,rfl⟩
   rw[<-hP]at HQ⊢;have t1:=ai3;have t2:=ai5;have t3:=ai7;have t4:=ai4;have t5:=ai6;clear jf lL cG be az am hp ih hP HT;go_enter func22,ntmps22;go_wp2_with fail;refine HQ.o.mono ?_;rintro e w2 ⟨o2,rfl,h2⟩;go_wp2;go_ret;exact⟨o2,rfl,h2⟩
theorem Ug(n:Zc)(v:VT n)(x:Zd)(w:Zf)(cH:db n w (λm=>m<w.heap.size) v x)(be:fV n v)(hp:lj w.heap.size w)(az:(aF n v).length<=600000):
 Zn prog 12 #[x] w λe w'=>e=.returned (.string (bs (aF n v)))/\O w.heap.size w w':=by
 go_enter func12,ntmps12;go_wp2_with fail;refine(Up n v x w w.heap.size _ [] cH be (Z4 _) (OB.nil _ _) hp (by simpa using az)).mono ?_;rintro e w1 ⟨o1,rfl,cE,je,io⟩;have oU:=ua cE;clear cH be az;go_wp2;go_ret;exact⟨by rfl,je⟩
end Go.Proofs.YtdlgkgfeoiohiaaGreatDoor
