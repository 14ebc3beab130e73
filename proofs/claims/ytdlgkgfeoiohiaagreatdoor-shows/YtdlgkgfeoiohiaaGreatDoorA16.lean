/- Part 16. -/
import Derived.Test.YtdlgkgfeoiohiaaGreatDoorA10
open Bool renaming true -> Zb
open Go renaming Value -> Zh
open Go.RowKit renaming Below -> Zc
open Go.RowKit.Below renaming refl -> Zf
open List renaming length_append -> Ze,length_cons -> Zg,length_singleton -> Zj,mem_of_getElem? -> Zl,isEmpty_eq_false_iff -> Zn,length -> Zo,length_map -> Zp,length_nil -> Zq,length_take -> Zr,map_take -> Zt,take_add_one -> Zu,take_of_length_le -> Zv,zipWith -> Zw
open Nat renaming le_trans -> Zk
open Option renaming none -> O,some -> Za
open Sum renaming inr -> Zm
open _root_ renaming List -> Zd,if_neg -> Zi
namespace Go.Proofs.YtdlgkgfeoiohiaaGreatDoor
set_option linter.unusedVariables false
set_option maxHeartbeats 16000000
set_option maxRecDepth 100000
open Go.RowKit J Tryz
variable {α β:Type}
theorem bO.get{R:α->β->Prop}:∀{us:Zd α} {vs:Zd β},bO R us vs->∀i,i<us.length->∃a b,us[i]?=Za a/\vs[i]?=Za b/\R a b
 |[],[],_,i,h=>by simp at h
 |a::us,b::vs,k,i,h=>by
  cases i with
  |zero=>exact⟨a,b,rfl,rfl,k.1⟩
  |succ i=>
   obtain⟨x,y,h1,h2,h3⟩:=bO.get k.2 i (by simpa using h);exact⟨x,y,by simpa using h1,by simpa using h2,h3⟩
 |[],b::vs,k,i,h=>by simp at h
 |a::us,[],k,_,_=>k.elim
theorem UX(f:α->β)(l:Zd α)(i:Nat)(a:α)(h:l[i]?=Za a):(l.take (i+1)).map f=(l.take i).map f++[f a]:=by
 rw[Zu,h];simp
theorem ao.maxlen{w:World}{e:TypeId}{v:Zh}{xs:Zd Zh}(h:ao w e v xs):xs.length<=maxLen:=by
 rcases h.2 with⟨_,h3⟩|⟨g',cap',cur,h2,h0,hg,hc,hm,r⟩
 .omega
 .omega
theorem vX(f:Bool):∀(l:Zd (Zd UInt8)) (i:Nat),(ci f (l.take i)).length<=(ci f l).length
 |[],i=>by simp
 |x::l,0=>by simp[ci]
 |x::l,i+1=>by
  simp only[Zd.take_succ_cons,ci];have:∀(g:Bool),(ci g (l.take i)).length<=(ci g l).length:=λg=>vX g l i
  have:=this false;simp only[Ze];omega
theorem akd(n:Nat)(ih:DR n)(vs:Zd (VT n))(p:Zh)(w:World)(N:Nat)(out:Zh)(l:Zd UInt8)(cH:br (n+1) w (λm=>m<N) (VT.list vs) p)(be:∀x∈vs,fV n x)(hN:N<=w.heap.size)(am:OB w N out l)(az:l.length+(91::ci Zb (vs.map (aF n))++[93]).length<=900000):
 Calls prog 50 #[p,out] w λe w'=>∃out',e=.returned out'/\OB w' N out' (l++(91::ci Zb (vs.map (aF n))++[93]))/\Zc N w w'/\N<=w'.heap.size:=by
 obtain⟨m,W,lsl,ps,rfl,hm,hh,aO,lL,cG⟩:=cH;obtain⟨g0,g1,g2,g3,g4,g5,hf⟩:=m7 hh;have iQ:=aO.maxlen;have oJ:=cG.length;have ry:=aO.len;have qF:∀g cap,lsl=.slice (Za ⟨g,0,O⟩) ps.length cap->g<N/\∀i u,ps[i]?=Za u->w.cell? ⟨g,i,O⟩=Za u:=by
  intro g cap e;subst e;exact⟨lL g rfl,λi u hu=>aO.get hu⟩
 have uN:XX (bO (br n w (λm=>m<N)) vs ps):=cG;have HC:XX (∀g cap,lsl=.slice (Za ⟨g,0,O⟩) ps.length cap->g<N/\∀i u,ps[i]?=Za u->w.cell? ⟨g,i,O⟩=Za u):=qF;have AE:XX ((lsl=.slice O 0 0/\ps=[])\/∃g cap,lsl=.slice (Za ⟨g,0,O⟩) ps.length cap/\ps.length<=cap):=ry;have gQ:XX (∀x∈vs,fV n x):=be;have nf:XX (DR n):=ih;have qv:XX (vs.length=ps.length):=oJ;have j8:XX (l.length+(91::ci Zb (vs.map (aF n))++[93]).length<=900000):=az;have hl9:l.length<=899990\/899990<l.length:=by omega
 unfold maxLen at iQ;have mc:l.length<=899998:=by have:=j8.o;simp at this;omega
 obtain⟨P,hP⟩:∃P,P=l++(91::ci Zb (vs.map (aF n))++[93]):=⟨_,rfl⟩
 have HP:XX (P=l++(91::ci Zb (vs.map (aF n))++[93])):=hP;rw[<-hP];clear hh aO lL cG qF ry be ih oJ az hl9 hP g1 g2 g4 g5 hf;go_enter func50,ntmps50;go_wp2_with (at_builtin;refine dz rfl (.tmp 47) (.tmp 49) rfl N out l rfl ?h1 _ _ _ [91] rfl rfl ?h2 ?h3 ?h4 ?_)
 case h1=>exact am.alloc _
 case h2=>exact cX rfl _ _ rfl
 case h3=>simp;omega
 case h4=>simp;omega
 intro v1 w1 cE bX;have je:Zc N w w1:=((Zf N w).alloc hN _).grown bX (by simp;omega) am.below;have io:N<=w1.heap.size:=by have:=bX.size;simp at this;omega
 clear bX;go_wp2_with fail;go_loopg [1,7] (ps.length+1) (λg ov iv wr=>∃x:Nat,x<=ps.length/\g=ps.length+1-x/\iv=.int .i64 x/\OB wr N ov (l++91::ci Zb ((vs.take x).map (aF n)))/\Zc N w wr/\N<=wr.heap.size)
 case atStart=>exact⟨0,by omega,by omega,rfl,by simpa[ci]using cE,je,io⟩
 case round=>
  obtain⟨x,hx,hg,rfl,dH,ba,aH⟩:=hrel;have HG:XX (gk=ps.length+1-x):=hg;clear cE je io hg;have c0:=(ba.cell (p:=⟨m,0,O⟩) hm).trans g0;have c3:=(ba.cell (p:=⟨m,3,O⟩) hm).trans g3;obtain⟨L,hL⟩:∃L,L=l++91::ci Zb ((vs.take x).map (aF n)):=⟨_,rfl⟩
  rw[<-hL]at dH;have HL:XX (L=l++91::ci Zb ((vs.take x).map (aF n))):=hL;have El:L.length<=899999:=by
   have h1:=j8.o;have h2:=vX Zb (vs.map (aF n)) x;rw[<-Zt]at h2;rw[Ze,Zg,Zj]at h1;rw[hL,Ze,Zg];omega
  clear hL;by_cases ai:x<ps.length
  .obtain⟨a,b,ha,hb,eA⟩:=uN.o.get x (by rw[qv.o];exact ai);rcases AE.o with⟨_,h2⟩|⟨gl,capl,h1,h2⟩
   .rw[h2]at ai;simp at ai
   .have dx:=HC.o gl capl h1;have cp:=(ba.cell (p:=⟨gl,x,O⟩) dx.1).trans (dx.2 x b hb);rw[h1]at c3;have sa:XX (br n wr (λm=>m<N) a b):=br.keep n eA (λk o hk ho=>⟨ba.block k hk,hk⟩);have kB:XX (l++91::ci Zb ((vs.take (x+1)).map (aF n))=L++((if x=0 then[]else[44])++aF n a)):=by
     show _=_;rw[UX _ _ _ _ ha,Fl,HL.o];by_cases es:x=0
     .subst es;simp[ci]
     .rw[Zi es];have:((vs.take x).map (aF n)).isEmpty=false:=by
       have h1:vs.length=ps.length:=qv.o;rw[Zn];intro e;have h2:=congrArg Zo e;rw[Zp,Zr,Zq]at h2;omega
      rw[this];simp
    have ot:XX ((L++((if x=0 then[]else[44])++aF n a)).length<=899999):=by
     show _<=_;have h1:=j8.o;have h2:=vX Zb (vs.map (aF n)) (x+1);rw[<-Zt]at h2;rw[Ze,Zg,Zj]at h1;rw[<-kB.o,Ze,Zg];omega
    have sr:XX (fV n a):=gQ.o a (Zl ha);clear h1 h2 dx eA ha hb;by_cases es:x=0
    .subst es;have pI:XX (L.length+(aF n a).length<=900000):=by show _<=_;have:=ot.o;simp at this;omega
     have oS:XX (l++91::ci Zb ((vs.take (0+1)).map (aF n))=L++aF n a):=by show _=_;rw[kB.o];simp
     go_wp2_with (go_at_call 50;refine(nf.o a b wr N _ L sa.o sr.o aH dH pI.o).mono ?_;rintro e w4 ⟨o4,rfl,aN,iP,dk⟩)
     go_roundg (ps.length+1-(0+1))
     case measure=>rw[HG.o];omega
     case rel=>exact⟨0+1,by omega,rfl,by go_num,by rw[oS.o];exact aN,ba.trans iP,dk⟩
    .have gX:0<x:=by omega
     have pI:XX ((L++[44]).length+(aF n a).length<=900000):=by show _<=_;have:=ot.o;rw[Zi es]at this;simp at this⊢;omega
     have oS:XX (l++91::ci Zb ((vs.take (x+1)).map (aF n))=(L++[44])++aF n a):=by show _=_;rw[kB.o,Zi es];simp
     clear es;go_wp2_with (at_builtin;refine dz rfl (.tmp 62) (.tmp 63) rfl N _ L rfl ?k1 _ _ _ [44] rfl rfl ?k2 ?k3 ?k4 ?_)
     case k1=>exact dH.alloc _
     case k2=>exact cX rfl _ _ rfl
     case k3=>simp;omega
     case k4=>simp;omega
     intro v3 w3 bz aP;have dr:Zc N wr w3:=((Zf N wr).alloc aH _).grown aP (by simp;omega) dH.below;have eC:N<=w3.heap.size:=by have:=aP.size;simp at this;omega
     have d0:=(dr.cell (p:=⟨m,0,O⟩) hm).trans c0;have d3:=(dr.cell (p:=⟨m,3,O⟩) hm).trans c3;have sU:gl<N:=by
      rcases AE.o with⟨h,_⟩|⟨g',cap',h,_⟩
      .rw[h]at g3;have:=c3;rw[(ba.cell (p:=⟨m,3,O⟩) hm),g3]at this;cases this
      .have:=c3;rw[(ba.cell (p:=⟨m,3,O⟩) hm),g3,h]at this;injection this with this;injection this with this;injection this with this;injection this with this;rw[<-this];exact(HC.o g' cap' h).1
     have dp:=(dr.cell (p:=⟨gl,x,O⟩) sU).trans cp;have Jz:XX (br n w3 (λm=>m<N) a b):=br.keep n sa.o (λk o hk ho=>⟨dr.block k hk,hk⟩);clear aP c0 c3 cp;go_wp2_with (go_at_call 50;refine(nf.o a b w3 N _ (L++[44]) Jz.o sr.o eC bz pI.o).mono ?_;rintro e w4 ⟨o4,rfl,aN,iP,dk⟩)
     go_roundg (ps.length+1-(x+1))
     case measure=>rw[HG.o];omega
     case rel=>exact⟨x+1,by omega,rfl,by go_num,by rw[oS.o];exact aN,(ba.trans dr).trans iP,dk⟩
  .have uw:x=ps.length:=by omega
   have HF:XX (L++[93]=P):=by
    show _=_;rw[HP.o,HL.o,Zv (by rw[qv.o];omega)];simp
   rcases AE.o with⟨h1,h2⟩|⟨gl,capl,h1,h2⟩
   all_goals
    rw[h1]at c3;clear h1 h2;go_wp2_with (at_builtin;refine dz rfl (.tmp 92) (.tmp 94) rfl N _ L rfl ?j1 _ _ _ [93] rfl rfl ?j2 ?j3 ?j4 ?_)
    case j1=>exact dH.alloc _
    case j2=>exact cX rfl _ _ rfl
    case j3=>simp;omega
    case j4=>simp;omega
    intro v3 w3 bz aP;have dr:Zc N wr w3:=((Zf N wr).alloc aH _).grown aP (by simp;omega) dH.below;have eC:N<=w3.heap.size:=by have:=aP.size;simp at this;omega
    rw[HF.o]at bz;clear aP;go_wp2;go_ret;exact⟨v3,rfl,bz,ba.trans dr,eC⟩
theorem UW(l:Zd α)(i:Nat)(a:α)(h:l[i]?=Za a):l.take (i+1)=l.take i++[a]:=by
 rw[Zu,h];simp
theorem ake(n:Nat)(ih:DR n)(ks:Zd ByteArray)(vs:Zd (VT n))(p:Zh)(w:World)(N:Nat)(out:Zh)(l:Zd UInt8)(cH:br (n+1) w (λm=>m<N) (VT.obj ks vs) p)(be:∀x∈vs,fV n x)(hkok:∀k∈ks,k.size<=100000)(hN:N<=w.heap.size)(am:OB w N out l)
 (T:Zd (Zd UInt8)) (hT:T=Zw iS ks (vs.map (aF n))) (az:l.length+(123::ci Zb T++[125]).length<=900000):
 Calls prog 50 #[p,out] w λe w'=>∃out',e=.returned out'/\OB w' N out' (l++(123::ci Zb T++[125]))/\Zc N w w'/\N<=w'.heap.size:=by
 obtain⟨m,W,lsl,ksl,ps,rfl,hm,hh,aO,me,lL,RX,R0,cG⟩:=cH;obtain⟨g0,g1,g2,g3,g4,g5,hf⟩:=m7 hh;have iQ:=aO.maxlen;have oJ:=cG.length;have Lk:T.length=ps.length:=by rw[hT,Zd.length_zipWith,Zp];omega
 have ry:=aO.len;have RM:=me.len;have dO:(kv ks).length=ps.length:=by simp[kv];omega
 have qF:∀g cap,lsl=.slice (Za ⟨g,0,O⟩) ps.length cap->g<N/\∀i u,ps[i]?=Za u->w.cell? ⟨g,i,O⟩=Za u:=by
  intro g cap e;subst e;exact⟨lL g rfl,λi u hu=>aO.get hu⟩
 have Rw:∀g cap,ksl=.slice (Za ⟨g,0,O⟩) (kv ks).length cap->g<N/\∀i k,ks[i]?=Za k->w.cell? ⟨g,i,O⟩=Za (.string k):=by
  intro g cap e;subst e;exact⟨RX g rfl,λi k hu=>me.get (by simp[kv,hu])⟩
 have uN:XX (bO (br n w (λm=>m<N)) vs ps):=cG;have HC:XX (∀g cap,lsl=.slice (Za ⟨g,0,O⟩) ps.length cap->g<N/\∀i u,ps[i]?=Za u->w.cell? ⟨g,i,O⟩=Za u):=qF;have Ws:XX (∀g cap,ksl=.slice (Za ⟨g,0,O⟩) (kv ks).length cap->g<N/\∀i k,ks[i]?=Za k->w.cell? ⟨g,i,O⟩=Za (.string k)):=Rw;have AE:XX ((lsl=.slice O 0 0/\ps=[])\/∃g cap,lsl=.slice (Za ⟨g,0,O⟩) ps.length cap/\ps.length<=cap):=ry;have WB:XX ((ksl=.slice O 0 0/\kv ks=[])\/∃g cap,ksl=.slice (Za ⟨g,0,O⟩) (kv ks).length cap/\(kv ks).length<=cap):=RM;have OM:XX ((kv ks).length=ps.length):=dO;have gQ:XX (∀x∈vs,fV n x):=be;have JQ:XX (∀k∈ks,k.size<=100000):=hkok;have nf:XX (DR n):=ih;have qv:XX (vs.length=ps.length):=oJ;have WO:XX (ks.length=vs.length):=R0;have yA:XX (T.length=ps.length):=Lk;have DF:XX (T=Zw iS ks (vs.map (aF n))):=hT;have j8:XX (l.length+(123::ci Zb T++[125]).length<=900000):=az;unfold maxLen at iQ;have mc:l.length<=899998:=by have:=j8.o;simp at this;omega
 obtain⟨P,hP⟩:∃P,P=l++(123::ci Zb T++[125]):=⟨_,rfl⟩
 have HP:XX (P=l++(123::ci Zb T++[125])):=hP;rw[<-hP];clear hh aO me lL RX R0 cG qF Rw ry RM dO be hkok ih oJ az hP hT Lk g1 g2 g5 hf;go_enter func50,ntmps50;go_wp2_with (at_builtin;refine dz rfl (.tmp 47) (.tmp 49) rfl N out l rfl ?h1 _ _ _ [123] rfl rfl ?h2 ?h3 ?h4 ?_)
 case h1=>exact am.alloc _
 case h2=>exact cX rfl _ _ rfl
 case h3=>simp;omega
 case h4=>simp;omega
 intro v1 w1 cE bX;have je:Zc N w w1:=((Zf N w).alloc hN _).grown bX (by simp;omega) am.below;have io:N<=w1.heap.size:=by have:=bX.size;simp at this;omega
 clear bX;go_wp2_with fail;go_loopg [1,7] (ps.length+1) (λg ov iv wr=>∃x:Nat,x<=ps.length/\g=ps.length+1-x/\iv=.int .i64 x/\OB wr N ov (l++123::ci Zb (T.take x))/\Zc N w wr/\N<=wr.heap.size)
 case atStart=>exact⟨0,by omega,by omega,rfl,by simpa[ci]using cE,je,io⟩
 case round=>
  obtain⟨x,hx,hg,rfl,dH,ba,aH⟩:=hrel;have HG:XX (gk=ps.length+1-x):=hg;clear cE je io hg;have c0:=(ba.cell (p:=⟨m,0,O⟩) hm).trans g0;have c3:=(ba.cell (p:=⟨m,3,O⟩) hm).trans g3;have c4:=(ba.cell (p:=⟨m,4,O⟩) hm).trans g4;obtain⟨L,hL⟩:∃L,L=l++123::ci Zb (T.take x):=⟨_,rfl⟩
  rw[<-hL]at dH;have HL:XX (L=l++123::ci Zb (T.take x)):=hL;have El:L.length<=899999:=by
   have h1:=j8.o;have h2:=vX Zb T x;rw[Ze,Zg,Zj]at h1;rw[hL,Ze,Zg];omega
  clear hL;by_cases ai:x<ps.length
  .obtain⟨a,b,ha,hb,eA⟩:=uN.o.get x (by rw[qv.o];exact ai);obtain⟨key,sV⟩:∃key,ks[x]?=Za key:=⟨ks[x]'(by have:=WO.o;have:=qv.o;omega),Zd.getElem?_eq_getElem _⟩
   have RY:=JQ.o key (Zl sV);have SF:T[x]?=Za (iS key (aF n a)):=by
    rw[DF.o];simp[Zd.getElem?_zipWith,sV,ha]
   rcases AE.o with⟨_,h2⟩|⟨gl,capl,h1,h2⟩
   .rw[h2]at ai;simp at ai
   rcases WB.o with⟨_,h4⟩|⟨gk2,capk,h3,h4⟩
   .have:=OM.o;rw[h4]at this;simp at this;omega
   have dx:=HC.o gl capl h1;have BD:=Ws.o gk2 capk h3;have sU:=dx.1;have aeh:=BD.1;have cp:=(ba.cell (p:=⟨gl,x,O⟩) dx.1).trans (dx.2 x b hb);have ck:=(ba.cell (p:=⟨gk2,x,O⟩) BD.1).trans (BD.2 x key sV);rw[h1]at c3;rw[h3,OM.o]at c4;have sa:XX (br n wr (λm=>m<N) a b):=br.keep n eA (λk o hk ho=>⟨ba.block k hk,hk⟩);have kB:XX (l++123::ci Zb (T.take (x+1))=L++((if x=0 then[]else[44])++iS key (aF n a))):=by
    show _=_;rw[UW _ _ _ SF,Fl,HL.o];by_cases es:x=0
    .subst es;simp[ci]
    .rw[Zi es];have:(T.take x).isEmpty=false:=by
      have h1:=yA.o;rw[Zn];intro e;have h2:=congrArg Zo e;rw[Zr,Zq]at h2;omega
     rw[this];simp
   have ot:XX ((L++((if x=0 then[]else[44])++iS key (aF n a))).length<=899999):=by
    show _<=_;have h1:=j8.o;have h2:=vX Zb T (x+1);rw[Ze,Zg,Zj]at h1;rw[<-kB.o,Ze,Zg];omega
   have sr:XX (fV n a):=gQ.o a (Zl ha);obtain⟨Q,hQ⟩:∃Q,Q=dt key.data.toList:=⟨_,rfl⟩
   have HQ:XX (Q=dt key.data.toList):=hQ;have Q4:=eO Q;clear h1 h2 h3 h4 dx BD eA ha hb sV SF hQ;by_cases es:x=0
   .subst es;have Dr:XX (L.length+Q.length+1+(aF n a).length<=899999):=by
     show _<=_;have:=ot.o;rw[if_pos rfl]at this;rw[HQ.o];simp[iS]at this;omega
    have hQl:L.length+Q.length<=899998:=by have:=Dr.o;omega
    have oS:XX (l++123::ci Zb (T.take (0+1))=((L++Q)++[58])++aF n a):=by show _=_;rw[kB.o,HQ.o];simp[iS]
    clear kB ot;go_wp2_with fail;refine(CF key _ RY).mono ?_;rintro e w4 ⟨rfl,iP⟩;rw[<-HQ.o];have aN:=IL dH iP;have dk:N<=w4.heap.size:=Zk aH iP.size;have sG:Zc N wr w4:=iP.mono aH;have d0:=(sG.cell (p:=⟨m,0,O⟩) hm).trans c0;have d3:=(sG.cell (p:=⟨m,3,O⟩) hm).trans c3;have dp:=(sG.cell (p:=⟨gl,0,O⟩) sU).trans cp;have Eh:Zc N wr w4:=sG;clear c0 c3 c4 cp ck iP sG;go_wp2_with (at_builtin;refine rk rfl (.tmp 70) (.tmp 78) rfl N _ L rfl aN (bs Q) rfl ?Ll3 dk ?_)
    case Ll3=>rw[eO];omega
    intro v5 w5 jC bK;rw[Bi]at jC;obtain⟨LQ,vo⟩:∃LQ,LQ=L++Q:=⟨_,rfl⟩
    rw[<-vo]at jC;have JS:XX (LQ=L++Q):=vo;have adj:LQ.length=L.length+Q.length:=by rw[vo,Ze]
    have sH:Zc N w4 w5:=(Zf N w4).grown bK dk aN.below;have zL:N<=w5.heap.size:=Zk dk bK.size;have e0:=(sH.cell (p:=⟨m,0,O⟩) hm).trans d0;have e3:=(sH.cell (p:=⟨m,3,O⟩) hm).trans d3;have ep:=(sH.cell (p:=⟨gl,0,O⟩) sU).trans dp;have jm:Zc N wr w5:=Eh.trans sH;clear bK d0 d3 dp vo sH;go_wp2_with (at_builtin;refine dz rfl (.tmp 80) (.tmp 81) rfl N _ LQ rfl ?Lm1 _ _ _ [58] rfl rfl ?Lm2 ?Lm3 ?Lm4 ?_)
    case Lm1=>exact jC.alloc _
    case Lm2=>exact cX rfl _ _ rfl
    case Lm3=>simp;omega
    case Lm4=>simp;omega
    intro v6 w6 vN rA;obtain⟨LR,vp⟩:∃LR,LR=LQ++[58]:=⟨_,rfl⟩
    rw[<-vp]at vN;have JT:XX (LR=LQ++[58]):=vp;have adk:LR.length=LQ.length+1:=by rw[vp,Ze];rfl
    have sI:Zc N w5 w6:=((Zf N w5).alloc zL _).grown rA (by simp;omega) jC.below;have jp:N<=w6.heap.size:=by have:=rA.size;simp at this;omega
    have f0:=(sI.cell (p:=⟨m,0,O⟩) hm).trans e0;have f3:=(sI.cell (p:=⟨m,3,O⟩) hm).trans e3;have fp:=(sI.cell (p:=⟨gl,0,O⟩) sU).trans ep;have lq:Zc N wr w6:=jm.trans sI;have JB:XX (br n w6 (λm=>m<N) a b):=br.keep n sa.o (λk o hk ho=>⟨lq.block k hk,hk⟩);have JR:XX (LR.length+(aF n a).length<=900000):=by show _<=_;have:=Dr.o;omega
    clear rA e0 e3 ep vp sI;go_wp2_with fail;refine(nf.o a b w6 N _ LR JB.o sr.o jp vN JR.o).mono ?_;rintro e w7 ⟨o7,rfl,BU,Lv,Mq⟩;go_wp2_with fail;go_roundg (ps.length+1-(0+1))
    case measure=>rw[HG.o];omega
    case rel=>exact⟨0+1,by omega,rfl,by go_num,by rw[oS.o,<-JS.o,<-JT.o];exact BU,(ba.trans lq).trans Lv,Mq⟩
   .have gX:0<x:=by omega
    have HX0:XX (¬x=0):=es;clear es;go_wp2_with (at_builtin;refine dz rfl (.tmp 62) (.tmp 63) rfl N _ L rfl ?k1 _ _ _ [44] rfl rfl ?k2 ?k3 ?k4 ?_)
    case k1=>exact dH.alloc _
    case k2=>exact cX rfl _ _ rfl
    case k3=>simp;omega
    case k4=>simp;omega
    intro v3 w3 bz aP;obtain⟨L2,Hf⟩:∃L2,L2=L++[44]:=⟨_,rfl⟩
    rw[<-Hf]at bz;have pH:XX (L2=L++[44]):=Hf;have alw:L2.length=L.length+1:=by rw[Hf,Ze];rfl
    have dr:Zc N wr w3:=((Zf N wr).alloc aH _).grown aP (by simp;omega) dH.below;have eC:N<=w3.heap.size:=by have:=aP.size;simp at this;omega
    have es:=HX0.o;have c0:=(dr.cell (p:=⟨m,0,O⟩) hm).trans c0;have c3:=(dr.cell (p:=⟨m,3,O⟩) hm).trans c3;have c4:=(dr.cell (p:=⟨m,4,O⟩) hm).trans c4;have cp:=(dr.cell (p:=⟨gl,x,O⟩) sU).trans cp;have ck:=(dr.cell (p:=⟨gk2,x,O⟩) aeh).trans ck;clear aP Hf;have Dr:XX (L2.length+Q.length+1+(aF n a).length<=899999):=by
     show _<=_;have:=ot.o;rw[Zi es]at this;rw[HQ.o];simp[iS]at this;omega
    have hQl:L2.length+Q.length<=899998:=by have:=Dr.o;omega
    have oS:XX (l++123::ci Zb (T.take (x+1))=((L2++Q)++[58])++aF n a):=by show _=_;rw[kB.o,HQ.o,Zi es,pH.o];simp[iS]
    clear kB ot es;go_wp2_with fail;refine(CF key _ RY).mono ?_;rintro e w4 ⟨rfl,iP⟩;rw[<-HQ.o];have aN:=IL bz iP;have dk:N<=w4.heap.size:=Zk eC iP.size;have sG:Zc N w3 w4:=iP.mono eC;have d0:=(sG.cell (p:=⟨m,0,O⟩) hm).trans c0;have d3:=(sG.cell (p:=⟨m,3,O⟩) hm).trans c3;have dp:=(sG.cell (p:=⟨gl,x,O⟩) sU).trans cp;have Eh:Zc N wr w4:=dr.trans sG;clear c0 c3 c4 cp ck iP sG;go_wp2_with (at_builtin;refine rk rfl (.tmp 70) (.tmp 78) rfl N _ L2 rfl aN (bs Q) rfl ?L2l3 dk ?_)
    case L2l3=>rw[eO];omega
    intro v5 w5 jC bK;rw[Bi]at jC;obtain⟨LQ,vo⟩:∃LQ,LQ=L2++Q:=⟨_,rfl⟩
    rw[<-vo]at jC;have JS:XX (LQ=L2++Q):=vo;have adj:LQ.length=L2.length+Q.length:=by rw[vo,Ze]
    have sH:Zc N w4 w5:=(Zf N w4).grown bK dk aN.below;have zL:N<=w5.heap.size:=Zk dk bK.size;have e0:=(sH.cell (p:=⟨m,0,O⟩) hm).trans d0;have e3:=(sH.cell (p:=⟨m,3,O⟩) hm).trans d3;have ep:=(sH.cell (p:=⟨gl,x,O⟩) sU).trans dp;have jm:Zc N wr w5:=Eh.trans sH;clear bK d0 d3 dp vo sH;go_wp2_with (at_builtin;refine dz rfl (.tmp 80) (.tmp 81) rfl N _ LQ rfl ?L2m1 _ _ _ [58] rfl rfl ?L2m2 ?L2m3 ?L2m4 ?_)
    case L2m1=>exact jC.alloc _
    case L2m2=>exact cX rfl _ _ rfl
    case L2m3=>simp;omega
    case L2m4=>simp;omega
    intro v6 w6 vN rA;obtain⟨LR,vp⟩:∃LR,LR=LQ++[58]:=⟨_,rfl⟩
    rw[<-vp]at vN;have JT:XX (LR=LQ++[58]):=vp;have adk:LR.length=LQ.length+1:=by rw[vp,Ze];rfl
    have sI:Zc N w5 w6:=((Zf N w5).alloc zL _).grown rA (by simp;omega) jC.below;have jp:N<=w6.heap.size:=by have:=rA.size;simp at this;omega
    have f0:=(sI.cell (p:=⟨m,0,O⟩) hm).trans e0;have f3:=(sI.cell (p:=⟨m,3,O⟩) hm).trans e3;have fp:=(sI.cell (p:=⟨gl,x,O⟩) sU).trans ep;have lq:Zc N wr w6:=jm.trans sI;have JB:XX (br n w6 (λm=>m<N) a b):=br.keep n sa.o (λk o hk ho=>⟨lq.block k hk,hk⟩);have JR:XX (LR.length+(aF n a).length<=900000):=by show _<=_;have:=Dr.o;omega
    clear rA e0 e3 ep vp sI;go_wp2_with fail;refine(nf.o a b w6 N _ LR JB.o sr.o jp vN JR.o).mono ?_;rintro e w7 ⟨o7,rfl,BU,Lv,Mq⟩;go_wp2_with fail;go_roundg (ps.length+1-(x+1))
    case measure=>rw[HG.o];omega
    case rel=>exact⟨x+1,by omega,rfl,by go_num,by rw[oS.o,<-JS.o,<-JT.o];exact BU,(ba.trans lq).trans Lv,Mq⟩
  .have uw:x=ps.length:=by omega
   have HF:XX (L++[125]=P):=by
    show _=_;rw[HP.o,HL.o,Zv (by rw[yA.o];omega)];simp
   rcases AE.o with⟨h1,h2⟩|⟨gl,capl,h1,h2⟩
   all_goals
    rw[h1]at c3;clear h1 h2;go_wp2_with (at_builtin;refine dz rfl (.tmp 92) (.tmp 94) rfl N _ L rfl ?j1 _ _ _ [125] rfl rfl ?j2 ?j3 ?j4 ?_)
    case j1=>exact dH.alloc _
    case j2=>exact cX rfl _ _ rfl
    case j3=>simp;omega
    case j4=>simp;omega
    intro v3 w3 bz aP;have dr:Zc N wr w3:=((Zf N wr).alloc aH _).grown aP (by simp;omega) dH.below;have eC:N<=w3.heap.size:=by have:=aP.size;simp at this;omega
    rw[HF.o]at bz;clear aP;go_wp2;go_ret;exact⟨v3,rfl,bz,ba.trans dr,eC⟩
theorem Vs:∀n,DR n
 |0=>λv p w N out l cH be hN am az=>Vu v p w N out l cH be hN am az
 |n+1=>by
  have ih:=Vs n;intro v p w N out l cH be hN am az
  match v,cH,be,az with
  |Sum.inl lf,cH,be,az=>exact Vu lf p w N out l cH be hN am az
  |Zm (Sum.inl vs),cH,be,az=>exact akd n ih vs p w N out l cH be hN am az
  |Zm (Zm (ks,vs)),cH,be,az=>exact ake n ih ks vs p w N out l cH be.2 be.1 hN am _ rfl az
end Go.Proofs.YtdlgkgfeoiohiaaGreatDoor
