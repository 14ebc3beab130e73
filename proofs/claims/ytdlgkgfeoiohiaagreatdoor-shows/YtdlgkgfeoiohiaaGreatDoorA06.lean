/- Part 6. -/
import Derived.Test.YtdlgkgfeoiohiaaGreatDoorA05
import Derived.Deep.AppendLies
import Derived.Deep.RegionHeld
open Array renaming getElem?_eq_getElem -> ZC
open Bool renaming false -> Zk,true -> Zo
open Go renaming Value -> Ze,World -> Zi,Calls -> Zw,TypeId -> Zy
open Go.ByteArray renaming toList_eq -> ZH
open Go.RowKit.Below renaming heap_setCell -> ZG
open Go.Value renaming ownBlock -> Zq
open Go.World renaming setCell -> ZB,frozen? -> ZJ
open Go.World.ownsRow renaming alloc -> ZE,cells -> ZK,lt -> ZL
open List renaming length_append -> Zz,getElem?_eq_getElem -> ZD,length_set -> ZI
open Nat renaming le_trans -> Zh,le_refl -> Zu
open Option renaming some -> O,none -> Zb
open Or renaming inl -> Zl,inr -> Zp
open Prod.mk renaming injEq -> ZA
open Sum renaming inr -> Zm,inl -> Zt
open _root_ renaming Nat -> Za,Int -> Zc,List -> Zd,ByteArray -> Zf,if_neg -> Zg,Bool -> Zj,if_pos -> Zn,beq_eq_false_iff_ne -> Zr,UInt8 -> Zv,Except -> Zx
namespace Go.Proofs.YtdlgkgfeoiohiaaGreatDoor
set_option linter.unusedVariables false
set_option maxHeartbeats 16000000
set_option maxRecDepth 100000
open Go.RowKit J Tryz
variable {s a:Zf}{w x y w':Zi}{k n b f g cap m k2:Za}{lg fst:Zj}{S A B:Za->Prop}{e:Zy}{xs ps:Zd Ze}{α K:Type}{l ks v:Ze}{kind wt:Zc}
structure cI(S:Za->Prop)(w w':Zi):Prop where
 os:w'.os=w.os
 tape:w'.tape=w.tape
 output:w'.output=w.output
 size:w.heap.size<=w'.heap.size
 block:∀k,k<w.heap.size->¬S k->w'.heap[k]?=w.heap[k]?
theorem cI.refl(S:Za->Prop)(w:Zi):cI S w w:=⟨rfl,rfl,rfl,Zu _,λ_ _ _=>rfl⟩
theorem cI.trans{z:Zi}(h:cI S x y)(k:cI S y z):cI S x z:=
 ⟨k.os.trans h.os,k.tape.trans h.tape,k.output.trans h.output,Zh h.size k.size,λi hi hn=>(k.block i (Za.lt_of_lt_of_le hi h.size) hn).trans (h.block i hi hn)⟩
theorem cI.mono{T:Za->Prop}(h:cI S x y)(k:∀i,i<x.heap.size->S i->T i):cI T x y:=⟨h.os,h.tape,h.output,h.size,λi hi hn=>h.block i hi (λhs=>hn (k i hi hs))⟩
theorem cI.of_but(h:ab b x y):cI (λk=>k=b) x y:=⟨h.os,h.tape,h.output,h.size,λi hi hn=>h.block i hi (by intro e;apply hn;injection e)⟩
theorem cI.but(h:cI (λk=>k=b) x y):ab b x y:=⟨h.os,h.tape,h.output,h.size,λi hi hn=>h.block i hi (by intro e;apply hn;rw[e])⟩
theorem cI.of_grown{row:Option Za}(h:x.grownBy y row):cI (λk=>row=O k) x y:=⟨h.os,h.tape,h.output,h.size,λi hi hn=>h.block i hi (by intro e;exact hn e.symm)⟩
theorem cI.alloc(h:cI S x y)(o:Obj):cI S x (y.alloc o):=h.trans ⟨rfl,rfl,rfl,by simp,λk hk _=>Below.heap_alloc _ _ _ hk⟩
theorem cI.setCell(h:cI S x y)(hb:S b)(o:Za)(v:Ze):cI S x (y.setCell ⟨b,o,Zb⟩ v):=
 h.trans ⟨rfl,rfl,rfl,by simp[ZB],λk _ hn=>ZG _ _ _ _ (by intro e;apply hn;rw[e];exact hb)⟩
theorem cI.drew(h:cI S x y):cI S x y.drew:=⟨h.os,h.tape,h.output,h.size,h.block⟩
theorem cI.drewN(h:cI S x y)(n:Za):cI S x (y.drewN n):=⟨h.os,h.tape,h.output,h.size,h.block⟩
theorem m7{n:Zc}(h:w.heap[b]?=O (dq kind n s l ks wt)):
 w.cell? ⟨b,0,Zb⟩=O (.int .u8 kind)/\w.cell? ⟨b,1,Zb⟩=O (.int .i64 n)/\w.cell? ⟨b,2,Zb⟩=O (.string s)/\w.cell? ⟨b,3,Zb⟩=O l /\
 w.cell? ⟨b,4,Zb⟩=O ks/\w.cell? ⟨b,5,Zb⟩=O (.int .i64 wt)/\∀o,w.frozen? ⟨b,o,Zb⟩=Zk:=by
 refine⟨?_,?_,?_,?_,?_,?_,λo=>?_⟩ <;> simp[Zi.cell?,ZJ,h,dq]
theorem Vo{n:Zc}(h:w.heap[b]?=O (dq kind n s l ks wt))(l':Ze):
 (w.setCell ⟨b,3,Zb⟩ l').heap[b]?=O (dq kind n s l' ks wt):=cY h _
theorem aj0{n:Zc}(h:w.heap[b]?=O (dq kind n s l ks wt))(k':Ze):
 (w.setCell ⟨b,4,Zb⟩ k').heap[b]?=O (dq kind n s l k' wt):=cY h _
theorem Oa{n:Zc}(h:w.heap[b]?=O (dq kind n s l ks wt))(wt':Zc):
 (w.setCell ⟨b,5,Zb⟩ (.int .i64 wt')).heap[b]?=O (dq kind n s l ks wt'):=cY h _
theorem Hv{c o:Za}{x:Obj}(h:w.heap[b]?=O x)(bj:b≠c)(v:Ze):(w.setCell ⟨c,o,Zb⟩ v).heap[b]?=O x:=by
 rw[ZG _ _ _ _ (by simpa using bj)];exact h
theorem S7:(prog.info? 51).map (λi=>(i.zero,i.size,i.bytes))=O (O (.pointer Zb),1,8):=by kernel_rfl
theorem aft:(prog.info? 9).map (λi=>(i.zero,i.size,i.bytes))=O (O (.string ⟨#[]⟩),1,16):=by kernel_rfl
def ao(w:Zi)(e:Zy)(v:Ze)(xs:Zd Ze):Prop:=w.ownsRow 0 e 1 v xs.length xs
theorem ao.kept(h:ao w e v xs)(hc:cI S w w')(hn:∀k,v.ownBlock=O k->¬S k):ao w' e v xs:=by
 refine⟨h.1,?_⟩;rcases h.2 with h2|⟨g,cap,cur,rfl,h0,hg,r⟩
 .exact .inl h2
 .exact .inr ⟨g,cap,cur,rfl,h0,by rw[hc.block g (al hg) (hn g rfl)];exact hg,r⟩
theorem ao.lt(h:ao w e v xs)(hk:v.ownBlock=O k):k<w.heap.size:=(ZL h k hk).2
theorem ao.nil(w:Zi)(e:Zy):ao w e eE []:=Zi.ownsRow_nil _ _ _ _
theorem pP{ops:Array Oper}{rest:Zd Oper}{o:Oper}{a:Act}{Q:Exit->Act->Zi->Prop}(hgd:o.guard=Zb)(s x:Operand)(t e:Zy)
 (ho:o.op=.call { callee:=.builtin .append,args:=#[s,x],argTypes:=#[t,t] }) (z:Ze) (bytes:Za) (hinfo:(prog.info? e).map (λi=>(i.zero,i.size,i.bytes))=O (O z,1,bytes)) (hz:z.cells.size=1)
 (ht:prog.underlying t=O (.slice e)) (hby:bytes<=64) (v:Ze) (xs:Zd Ze) (hs:a.eval s=v) (am:ao w e v xs) (ad:Addr) (c:Za) (nv:Ze) (hx:a.eval x=.slice (O ad) 1 c)
 (hnv:w.cell? (ad.add 0)=O nv) (h1:nv.oneCell'=Zo) (hl:xs.length<=1000000) (H:Za) (hH:w.heap.size=H)
 (h:∀g cap w',ao w' e (.slice (O ⟨g,0,Zb⟩) (xs.length+1) cap) (xs++[nv])->w.grownBy w' v.ownBlock->(v.ownBlock=O g\/g=H)->g<w'.heap.size->wpList prog ops Q rest (a.put o.dst (.slice (O ⟨g,0,Zb⟩) (xs.length+1) cap)) w'):wpList prog ops Q (o::rest) a w:=by
 obtain⟨i0,hi,ip,ee,dP⟩:=info_parts hinfo;have hb:(xs.length+1)*bytes<=140737488355328:=Zh (Za.mul_le_mul (show xs.length+1<=1000001 by omega) hby) (by omega);refine wpList_append_lies _ hgd s x t ho 0 e i0 z 1 bytes ht hi ip ee dP hz (by decide) v xs.length xs hs am ad 1 c [nv] hx (by simp) ?_ ?_ (by omega) (by unfold maxLen;omega) hb (Za.zero_le _) H hH ?_
 .intro j u hj
  match j,hj with
  |0,hj=>simp at hj;subst hj;exact hnv
 .intro u hu;simp at hu;subst hu;exact h1
 .intro g cap w' r1 r2 r3 r4;refine h g cap w' ?_ r2 r3 r4;unfold ao;rw[Zz];exact r1
theorem my{W:Zi}{x:Ze}{t:Zy}(h:W.heap.size=n):(W.alloc (.cells #[x] t)).cell? ((⟨n,0,Zb⟩:Addr).add 0)=O x:=by
 subst h;exact cell_one_new W x t 0 x (by simp)
theorem aaR(mb m2:Za)(kind n:Zc)(s:Zf)(l ks:Ze)(wt:Zc)(kind2 n2:Zc)(s2:Zf)(l2 ks2:Ze)(wt2:Zc)(ps:Zd Ze)(w:Zi)
 (hb:w.heap[mb]?=O (dq kind n s l ks wt)) (hx:w.heap[m2]?=O (dq kind2 n2 s2 l2 ks2 wt2)) (bj:m2≠mb) (aO:ao w 51 l ps) (hr:∀g,l.ownBlock=O g->g≠mb/\g≠m2) (nz:ps.length<=2000):
 Zw prog 175 #[.pointer (O ⟨mb,0,Zb⟩),.pointer (O ⟨m2,0,Zb⟩)] w λe w'=>e=.returned (.tuple #[])/\∃l' wt',w'.heap[mb]?=O (dq kind n s l' ks wt')/\ao w' 51 l' (ps++[.pointer (O ⟨m2,0,Zb⟩)]) /\
  (∀g,l'.ownBlock=O g->l.ownBlock=O g\/w.heap.size<=g)/\cI (λk=>k=mb\/l.ownBlock=O k) w w':=by
 obtain⟨g0,g1,g2,g3,g4,g5,hf⟩:=m7 hb;obtain⟨q0,q1,q2,q3,q4,q5,qf⟩:=m7 hx;have HB:XX (w.heap[mb]?=O (dq kind n s l ks wt)):=hb;have HX:XX (w.heap[m2]?=O (dq kind2 n2 s2 l2 ks2 wt2)):=hx;have HR:XX (∀g,l.ownBlock=O g->g≠mb/\g≠m2):=hr;have E0:=al hb;have o9:=al hx;clear hb hx hr g0 g1 g2 g4 q0 q1 q2 q3 q4 qf;go_enter func175,ntmps175;go_wp2_with (at_builtin;refine pP rfl (.tmp 8) (.tmp 10) 169 51 rfl (.pointer Zb) 8 S7 rfl underlying169 (by decide) l ps rfl ?h1 _ _ (.pointer (O ⟨m2,0,Zb⟩)) rfl ?h2 rfl ?h3 _ rfl ?_)
 case h1=>exact ZE aO _
 case h2=>exact my rfl
 case h3=>omega
 intro g cap w2 ph an cQ ai;have zC:w2.heap[mb]?=O (dq kind n s l ks wt):=by
  rw[an.block mb (by simp;omega) (by intro e;exact(HR.o mb e.symm).1 rfl)];exact cj HB.o
 have BR:w2.heap[m2]?=O (dq kind2 n2 s2 l2 ks2 wt2):=by
  rw[an.block m2 (by simp;omega) (by intro e;exact(HR.o m2 e.symm).2 rfl)];exact cj HX.o
 have BC:cI (λk=>k=mb\/l.ownBlock=O k) w w2:=((cI.refl _ w).alloc _).trans ((cI.of_grown an).mono (λi _ h=>Zp h));obtain⟨a0,a1,a2,a3,a4,a5,af⟩:=m7 zC;obtain⟨b0,b1,b2,b3,b4,b5,bf⟩:=m7 BR;have HM:XX (w2.heap[mb]?=O (dq kind n s l ks wt)):=zC;have uX:XX (ao w2 51 (.slice (O ⟨g,0,Zb⟩) (ps.length+1) cap) (ps++[.pointer (O ⟨m2,0,Zb⟩)])):=ph;have pE:XX (l.ownBlock=O g\/g=w.heap.size+1):=cQ;have HC:XX (cI (λk=>k=mb\/l.ownBlock=O k) w w2):=BC;clear an cQ zC BR BC g3 g5 hf q5 a0 a1 a2 a4 b0 b1 b2 b3 b4 bf ph aO;go_wp2
 go_region
 all_goals
  go_wp2
  go_end0
  have LM:g≠mb:=by
   rcases pE.o with h|h
   .exact(HR.o g h).1
   .omega
  have hc:=((HC.o.setCell (b:=mb) (Zl rfl) 3 (.slice (O ⟨g,0,Zb⟩) (ps.length+1) cap)).setCell (b:=mb) (Zl rfl) 5 (.int .i64 (wrap64 (wt+wt2)))).drew;refine⟨rfl,.slice (O ⟨g,0,Zb⟩) (ps.length+1) cap,wrap64 (wt+wt2),Oa (Vo HM.o _) _,?_,?_,hc⟩
  .refine ao.kept (S:=λk=>k=mb) uX.o ?_ ?_
   .exact(((cI.refl (λk=>k=mb) w2).setCell (b:=mb) rfl _ _).setCell (b:=mb) rfl _ _).drew
   .intro k hk;simp[Zq]at hk;omega
  .intro k hk;simp[Zq]at hk;subst hk;rcases pE.o with h|h
   .exact Zl h
   .right;omega
theorem Nq [DecidableEq K]:∀(ks:Zd K) (ps:Zd α) (k:K) (x:α) (i:Za),ks.length=ps.length->(∀j,j<i->ks[j]?≠O k)->ks[i]?=O k->fB ks ps k x=ps.set i x/\jP ks k=ks
 |[],ps,k,x,i,_,_,h=>by simp at h
 |k'::ks,[],k,x,i,hl,_,h=>by simp at hl
 |k'::ks,p::ps,k,x,0,hl,hn,h=>by simp at h;simp[fB,jP,h]
 |k'::ks,p::ps,k,x,i+1,hl,hn,h=>by
  have h0:k'≠k:=by have:=hn 0 (by omega);simpa using this
  have ih:=Nq ks ps k x i (by simpa using hl) (λj hj=>by have:=hn (j+1) (by omega);simpa using this) (by simpa using h);simp[fB,jP,h0,ih.1,ih.2]
theorem Nr [DecidableEq K]:∀(ks:Zd K) (ps:Zd α) (k:K) (x:α),ks.length=ps.length->(∀j,j<ks.length->ks[j]?≠O k)->fB ks ps k x=ps++[x]/\jP ks k=ks++[k]
 |[],ps,k,x,_,_=>by simp[fB,jP]
 |k'::ks,[],k,x,hl,_=>by simp at hl
 |k'::ks,p::ps,k,x,hl,hn=>by
  have h0:k'≠k:=by have:=hn 0 (by simp);simpa using this
  have ih:=Nr ks ps k x (by simpa using hl) (λj hj=>by have:=hn (j+1) (by simp;omega);simpa using this);simp[fB,jP,h0,ih.1,ih.2]
def kv(ks:Zd Zf):Zd Ze:=ks.map Ze.string
def Pl(w:Zi)(p:Ze):Prop:=∃m kind n s l ks wt,p=.pointer (O ⟨m,0,Zb⟩)/\w.heap[m]?=O (dq kind n s l ks wt)
theorem ao.get(h:ao w e (.slice (O ⟨g,0,Zb⟩) n cap) xs){i:Za}{u:Ze}(hu:xs[i]?=O u):w.cell? ⟨g,i,Zb⟩=O u:=by
 have:=ZK h (g:=g) rfl i u hu;rw[Addr.add_lit]at this;simpa using this
theorem ao.free(h:ao w e (.slice (O ⟨g,0,Zb⟩) n cap) xs):∀o,w.frozen? ⟨g,o,Zb⟩=Zk:=by
 rcases h.2 with⟨h2,_⟩|⟨g',cap',cur,h2,h0,hg,r⟩
 .cases h2
 .injection h2 with h3 h4 h5;injection h3 with h3;injection h3 with h3;subst h3;intro o;simp[ZJ,hg]
theorem ao.len(h:ao w e v xs):(v=.slice Zb 0 0/\xs=[])\/∃g cap,v=.slice (O ⟨g,0,Zb⟩) xs.length cap/\xs.length<=cap:=by
 rcases h.2 with⟨h2,h3⟩|⟨g',cap',cur,h2,h0,hg,hc,r⟩
 .exact Zl ⟨h2,Zd.eq_nil_of_length_eq_zero h3⟩
 .exact Zp ⟨g',cap',h2,hc⟩
theorem ao.set(h:ao w e (.slice (O ⟨g,0,Zb⟩) n cap) xs)(i:Za)(hi:i<xs.length)(u:Ze):ao (w.setCell ⟨g,i,Zb⟩ u) e (.slice (O ⟨g,0,Zb⟩) n cap) (xs.set i u):=by
 have hx:=h;unfold ao at h⊢;rw[ZI];refine⟨by rw[ZI];exact h.1,?_⟩;rcases h.2 with⟨h2,_⟩|⟨g',cap',cur,h2,h0,hg,hc,hm,aH,fd⟩
 .cases h2
 .injection h2 with h3 h4 h5;injection h3 with h3;injection h3 with h3;subst h3;refine Zp ⟨g,cap',cur.setIfInBounds i u,by rw[h4,h5],h0,cY hg u,hc,hm,by simpa using aH,?_⟩;rw[Array.toList_setIfInBounds,Zd.take_set,fd]
theorem ww{b:Zf}(h:a≠b):(a.toList==b.toList)=Zk:=by
 rw[Zr];intro e;apply h
 rw[ZH,ZH]at e;exact Zf.ext (Array.toList_inj.1 e)
theorem xU{b:Zf}(h:a=b):(a.toList==b.toList)=Zo:=by subst h;simp
theorem ahZ(mb m2:Za)(kind n:Zc)(s:Zf)(l ksl:Ze)(wt:Zc)(kind2 n2:Zc)(s2:Zf)(l2 ks2:Ze)(wt2:Zc)(ps:Zd Ze)(ks:Zd Zf)(key:Zf)(i0:Za)(w:Zi)
 (hb:w.heap[mb]?=O (dq kind n s l ksl wt)) (hx:w.heap[m2]?=O (dq kind2 n2 s2 l2 ks2 wt2)) (bj:m2≠mb) (aO:ao w 51 l ps) (me:ao w 9 ksl (kv ks)) (az:ks.length=ps.length)
 (hr:∀g,l.ownBlock=O g->g≠mb/\g≠m2/\ksl.ownBlock≠O g) (hrks:∀g,ksl.ownBlock=O g->g≠mb/\g≠m2) (nz:ps.length<=2000) (cG:∀p∈ps,Pl w p)
 (dM:∀j,j<i0->ks[j]?≠O key) (oK:ks[i0]?=O key):
 Zw prog 176 #[.pointer (O ⟨mb,0,Zb⟩),.string key,.pointer (O ⟨m2,0,Zb⟩)] w λe w'=>e=.returned (.tuple #[])/\∃wt',w'.heap[mb]?=O (dq kind n s l ksl wt')/\ao w' 51 l (ps.set i0 (.pointer (O ⟨m2,0,Zb⟩)))/\ao w' 9 ksl (kv ks) /\
  cI (λk=>k=mb\/l.ownBlock=O k) w w':=by
 obtain⟨g0,g1,g2,g3,g4,g5,hf⟩:=m7 hb;obtain⟨q0,q1,q2,q3,q4,q5,qf⟩:=m7 hx;have BN:i0<ks.length:=(Zd.getElem?_eq_some_iff.1 oK).1;rcases me.len with⟨rfl,rK⟩|⟨gy,capk,rfl,BD⟩
 .simp[kv]at rK;subst rK;simp at BN
 rcases aO.len with⟨rfl,rK⟩|⟨gl,capl,rfl,rx⟩
 .subst rK;rw[az]at BN;simp at BN
 obtain⟨pi,BY⟩:∃pi,ps[i0]?=O pi:=⟨ps[i0]'(by omega),ZD (by omega)⟩
 obtain⟨mi,ki,ni,si,li,ksi,wi,rfl,BS⟩:=cG pi (Zd.mem_of_getElem? BY);obtain⟨p0,p1,p2,p3,p4,p5,pf⟩:=m7 BS;have EH:=aO.get BY;have p9:∀j k',ks[j]?=O k'->w.cell? ⟨gy,j,Zb⟩=O (.string k'):=λj k' h=>me.get (by simp[kv,h])
 have dO:(kv ks).length=ks.length:=by simp[kv]
 rw[dO]at g4 BD;have HB:XX (w.heap[mb]?=O (dq kind n s (.slice (O ⟨gl,0,Zb⟩) ps.length capl) (.slice (O ⟨gy,0,Zb⟩) ks.length capk) wt)):=by rw[dO]at hb;exact hb
 have HR:=hr;go_enter func176,ntmps176;go_wp2_with fail;go_loopg [6] (i0+1) (λg iv wr=>w=wr/\∃x:Za,x<=i0/\g=i0+1-x/\iv=.int .i64 x)
 case atStart=>exact⟨rfl,0,by omega,by omega,rfl⟩
 case round=>
  obtain⟨rfl,x,es,hg,rfl⟩:=hrel;have HG:XX (gk=i0+1-x):=hg;have jN:x<ks.length:=by omega
  obtain⟨kx,oZ⟩:∃kx,ks[x]?=O kx:=⟨ks[x]'jN,ZD jN⟩
  have jZ:=p9 x kx oZ;have hfl:=aO.free;have Gk:XX (ao w 51 (.slice (O ⟨gl,0,Zb⟩) ps.length capl) ps):=aO;have J5:XX (ao w 9 (.slice (O ⟨gy,0,Zb⟩) (kv ks).length capk) (kv ks)):=me;have qr:XX (gl≠mb/\gl≠m2/\gy≠gl):=⟨(hr gl rfl).1,(hr gl rfl).2.1,λe=>(hr gl rfl).2.2 (by rw[e];rfl)⟩
  have AP:XX (gy≠mb):=(hrks gy rfl).1;clear p9 qf pf g0 g1 g2 q0 q1 q2 q3 q4 p0 p1 p2 p3 p4 hb hx BS dO hr hrks aO me cG hg BY;by_cases In:x<i0
  .have aeI:=ww (show kx≠key by intro e;apply dM x In;rw[oZ,e]);clear dM oK oZ EH p5 q5 g3 g5;go_wp2;go_roundg (i0+1-(x+1))
   case measure=>rw[HG.o];omega
   case rel=>exact⟨rfl,x+1,by omega,rfl,by go_num⟩
  .have uw:x=i0:=by omega
   subst uw;have kN:kx=key:=by rw[oK]at oZ;injection oZ with h;exact h.symm
   have ul:=xU kN;have HL:XX (ks.length=ps.length):=az;have zQ:x<ps.length:=by omega
   have al6:gl≠mb:=qr.o.1;have aei:mb≠gl:=λe=>qr.o.1 e.symm
   clear dM oK oZ kN az In;go_wp2
   go_region
   all_goals
    go_wp2;refine bodyPost_ret (results_none rfl _ _ _) rfl ⟨rfl,?_⟩;have aW:ao (w.setCell ⟨mb,5,Zb⟩ (.int .i64 (wrap64 (wrap64 (wt-wi)+wt2)))) 51 (.slice (O ⟨gl,0,Zb⟩) ps.length capl) ps:=
     ao.kept (S:=λk=>k=mb) Gk.o ((cI.refl (λk=>k=mb) w).setCell (b:=mb) rfl _ _) (by intro k hk;simp[Zq]at hk;omega)
    refine⟨wrap64 (wrap64 (wt-wi)+wt2),?_,aW.set x zQ _,?_,?_⟩
    .show((w.setCell ⟨mb,5,Zb⟩ _).setCell ⟨gl,x,Zb⟩ _).heap[mb]?=_;rw[show(kv ks).length=ks.length by simp[kv]];exact Hv (Oa HB.o _) aei _
    .refine ao.kept (S:=λk=>k=mb\/k=gl) J5.o (((cI.refl (λk=>k=mb\/k=gl) w).setCell (b:=mb) (Zl rfl) _ _).setCell (b:=gl) (Zp rfl) _ _).drew ?_;intro k hk;simp[Zq]at hk;have:=qr.o.2.2;have:=AP.o;omega
    .exact(((cI.refl _ w).setCell (b:=mb) (Zl rfl) _ _).setCell (b:=gl) (Zp rfl) _ _).drew
theorem ah0(mb m2:Za)(kind n:Zc)(s:Zf)(l ksl:Ze)(wt:Zc)(kind2 n2:Zc)(s2:Zf)(l2 ks2:Ze)(wt2:Zc)(ps:Zd Ze)(ks:Zd Zf)(key:Zf)(w:Zi)
 (hb:w.heap[mb]?=O (dq kind n s l ksl wt)) (hx:w.heap[m2]?=O (dq kind2 n2 s2 l2 ks2 wt2)) (bj:m2≠mb) (aO:ao w 51 l ps) (me:ao w 9 ksl (kv ks)) (az:ks.length=ps.length)
 (hr:∀g,l.ownBlock=O g->g≠mb/\g≠m2/\ksl.ownBlock≠O g) (hrks:∀g,ksl.ownBlock=O g->g≠mb/\g≠m2) (nz:ps.length<=2000) (sV:key.size<=100000)
 (dM:∀j,j<ks.length->ks[j]?≠O key):
 Zw prog 176 #[.pointer (O ⟨mb,0,Zb⟩),.string key,.pointer (O ⟨m2,0,Zb⟩)] w λe w'=>e=.returned (.tuple #[])/\∃l' ksl' wt',w'.heap[mb]?=O (dq kind n s l' ksl' wt')/\ao w' 51 l' (ps++[.pointer (O ⟨m2,0,Zb⟩)])/\ao w' 9 ksl' (kv (ks++[key])) /\
  (∀g,l'.ownBlock=O g->(l.ownBlock=O g\/w.heap.size<=g)/\ksl'.ownBlock≠O g)/\(∀g,ksl'.ownBlock=O g->ksl.ownBlock=O g\/w.heap.size<=g)/\cI (λk=>k=mb\/l.ownBlock=O k\/ksl.ownBlock=O k) w w':=by
 obtain⟨g0,g1,g2,g3,g4,g5,hf⟩:=m7 hb;have dO:(kv ks).length=ks.length:=by simp[kv]
 have HB:XX (w.heap[mb]?=O (dq kind n s l ksl wt)):=hb;have HX:XX (w.heap[m2]?=O (dq kind2 n2 s2 l2 ks2 wt2)):=hx;have Gk:XX (ao w 51 l ps):=aO;have J5:XX (ao w 9 ksl (kv ks)):=me;have HR:XX (∀g,l.ownBlock=O g->g≠mb/\g≠m2/\ksl.ownBlock≠O g):=hr;have AP:XX (∀g,ksl.ownBlock=O g->g≠mb/\g≠m2):=hrks;have HL:XX (ks.length=ps.length):=az;have E0:=al hb;have o9:=al hx;have rG:ks.length<=2000:=by omega
 have ry:(ksl=.slice Zb 0 0/\ks=[])\/∃gy capk,ksl=.slice (O ⟨gy,0,Zb⟩) ks.length capk/\∀j k',ks[j]?=O k'->w.cell? ⟨gy,j,Zb⟩=O (.string k'):=by
  rcases me.len with⟨h1,h2⟩|⟨gy,capk,h1,h2⟩
  .exact Zl ⟨h1,by simpa[kv]using h2⟩
  .right
   refine⟨gy,capk,by rw[h1,dO],?_⟩;intro j k' h;rw[h1]at me;exact me.get (by simp[kv,h])
 have AF:XX _:=ry;clear hb hx aO me hr hrks az g0 g1 g2 ry dO;go_enter func176,ntmps176;go_wp2_with fail;go_loopg [6] (ks.length+1) (λg iv wr=>w=wr/\∃x:Za,x<=ks.length/\g=ks.length+1-x/\iv=.int .i64 x)
 case atStart=>exact⟨rfl,0,by omega,by omega,rfl⟩
 case round=>
  obtain⟨rfl,x,es,hg,rfl⟩:=hrel;have HG:XX (gk=ks.length+1-x):=hg;clear hg;by_cases jN:x<ks.length
  .obtain⟨kx,oZ⟩:∃kx,ks[x]?=O kx:=⟨ks[x]'jN,ZD jN⟩
   rcases AF.o with⟨_,h2⟩|⟨gy,capk,h1,h2⟩
   .subst h2;simp at jN
   .have jZ:=h2 x kx oZ;rw[h1]at g4;have aeI:=ww (show kx≠key by intro e;apply dM x jN;rw[oZ,e]);clear dM oZ g3 g5 h1 h2;go_wp2;go_roundg (ks.length+1-(x+1))
    case measure=>rw[HG.o];omega
    case rel=>exact⟨rfl,x+1,by omega,rfl,by go_num⟩
  .have uw:x=ks.length:=by omega
   subst uw;clear jN dM;rcases AF.o with⟨rfl,h2⟩|⟨gy,capk,rfl,h2⟩
   all_goals
    clear h2 AF;go_wp2_with (at_builtin;refine pP rfl (.tmp 59) (.tmp 61) 131 9 rfl (.string ⟨#[]⟩) 16 aft rfl underlying131 (by decide) _ _ rfl (ZE J5.o _) _ _ (.string key) rfl ?h2 rfl ?h3 _ rfl ?_)
    case h2=>exact my rfl
    case h3=>simp[kv];omega
    intro g1 cap1 w2 ph an cQ ai;have dO:(kv ks).length=ks.length:=by simp[kv]
    rw[dO]at ph;have zC:=(an.block mb (by simp;omega) (by intro e;exact(AP.o mb e.symm).1 rfl)).trans (cj HB.o);have BR:=(an.block m2 (by simp;omega) (by intro e;exact(AP.o m2 e.symm).2 rfl)).trans (cj HX.o);have BC:=((cI.refl _ w).alloc (.cells #[.string key] 9)).trans (cI.of_grown an);have Ij:w.heap.size+1<=w2.heap.size:=by have:=an.size;simpa using this
    have mJ:g1≠mb/\g1≠m2/\l.ownBlock≠O g1:=by
     rcases cQ with h|h
     .exact⟨(AP.o g1 h).1,(AP.o g1 h).2,λe=>(HR.o g1 e).2.2 h⟩
     .have h':g1=w.heap.size+1:=h;exact⟨by omega,by omega,λe=>by have:=Gk.o.lt e;omega⟩
    have qU:XX (g1≠mb/\g1≠m2/\l.ownBlock≠O g1):=mJ;have Ig:ao w2 51 l ps:=Gk.o.kept BC (λk hk h=>(HR.o k hk).2.2 h);obtain⟨a0,a1,a2,a3,a4,a5,af⟩:=m7 zC;obtain⟨b0,b1,b2,b3,b4,b5,bf⟩:=m7 BR;have pE:XX _:=cQ;have lb:XX _:=BC;have iJ:XX (g1<w2.heap.size):=ai;have va:XX _:=ph;have Sj:ao (w2.setCell ⟨mb,4,Zb⟩ (.slice (O ⟨g1,0,Zb⟩) (ks.length+1) cap1)) 51 l ps:=ao.kept (S:=λk=>k=mb) Ig ((cI.refl (λk=>k=mb) w2).setCell (b:=mb) rfl _ _) (λk hk=>(HR.o k hk).1);have WU:XX (w2.heap[mb]?=_):=zC;have WS:XX (w2.heap[m2]?=_):=BR;clear an cQ BC ai ph mJ g3 g4 g5 hf a0 a1 a2 b0 b1 b2 b3 b4 bf zC BR;go_wp2_with (at_builtin;refine pP rfl (.tmp 69) (.tmp 71) 169 51 rfl (.pointer Zb) 8 S7 rfl underlying169 (by decide) l ps rfl ?k1 _ _ (.pointer (O ⟨m2,0,Zb⟩)) rfl ?k2 rfl ?k3 _ rfl ?_)
    case k1=>exact ZE Sj _
    case k2=>exact my (by simp[ZB])
    case k3=>omega
    intro g3 cap3 w4 Fa oW Rj EZ;have L7:=(oW.block mb (by simp[ZB];omega) (by intro e;exact(HR.o mb e.symm).1 rfl)).trans (cj (aj0 WU.o _));have R5:=(oW.block m2 (by simp[ZB];omega) (by intro e;exact(HR.o m2 e.symm).2.1 rfl)).trans (cj (Hv WS.o bj _));have EI:=((cI.refl (λk=>k=mb\/l.ownBlock=O k) w2).setCell (b:=mb) (Zl rfl) 4 (.slice (O ⟨g1,0,Zb⟩) (ks.length+1) cap1)).alloc (.cells #[.pointer (O ⟨m2,0,Zb⟩)] 51);have EI:=EI.trans ((cI.of_grown oW).mono (λi _ h=>Zp h));have Si:ao w4 9 (.slice (O ⟨g1,0,Zb⟩) (ks.length+1) cap1) (kv ks++[.string key]):=ao.kept va.o EI (by
     intro k hk h;simp[Zq]at hk;subst hk;rcases h with h|h
     .exact qU.o.1 h
     .exact qU.o.2.2 h)
    have Wj:XX _:=Rj;have Wq:XX _:=EI;have Gq:XX _:=Fa;have jv:XX _:=Si;have WV:XX _:=L7;obtain⟨c0,c1,c2,c3,c4,c5,cf⟩:=m7 L7;obtain⟨d0,d1,d2,d3,d4,d5,df⟩:=m7 R5;clear oW Rj EI Fa Si EZ a3 a4 a5 af b5 Ig Sj L7 R5 c0 c1 c2 c4 d0 d1 d2 d3 d4 df;go_wp2
    go_region
    all_goals
     go_wp2
     go_end0
     have lu:l.ownBlock=O g3\/g3=w2.heap.size+1:=by
      rcases Wj.o with h|h
      .exact Zl h
      .right;rw[h]
     have al3:g3≠mb:=by
      rcases lu with h|h
      .exact(HR.o g3 h).1
      .omega
     have aee:g1≠g3:=by
      rcases lu with h|h
      .intro e;subst e;exact qU.o.2.2 h
      .have:=iJ.o;omega
     have gF:cI (λk=>k=mb) w4 (((w4.setCell ⟨mb,3,Zb⟩ (.slice (O ⟨g3,0,Zb⟩) (ps.length+1) cap3)).setCell ⟨mb,5,Zb⟩ (.int .i64 (wrap64 (wrap64 (wt+↑key.size)+wt2)))).drew):=
      (((cI.refl (λk=>k=mb) w4).setCell (b:=mb) rfl _ _).setCell (b:=mb) rfl _ _).drew
     refine⟨rfl,.slice (O ⟨g3,0,Zb⟩) (ps.length+1) cap3,.slice (O ⟨g1,0,Zb⟩) (ks.length+1) cap1,_,Oa (Vo WV.o _) _,?_,?_,?_,?_,?_⟩
     .exact ao.kept Gq.o gF (by intro k hk;simp[Zq]at hk;omega)
     .have:kv (ks++[key])=kv ks++[.string key]:=by simp[kv]
      rw[this];exact ao.kept jv.o gF (by intro k hk;simp[Zq]at hk;have:=qU.o.1;omega)
     .intro g hg;simp[Zq]at hg;subst hg;refine⟨?_,by simp[Zq];exact aee⟩;rcases lu with h|h
      .exact Zl h
      .right;omega
     .intro g hg;simp[Zq]at hg;subst hg;rcases pE.o with h|h
      .exact Zl h
      .right;have h':g1=w.heap.size+1:=h;omega
     .refine(lb.o.mono ?_).trans ((Wq.o.mono ?_).trans (gF.mono ?_))
      .intro i _ h;exact Zp (Zp h)
      .intro i _ h;rcases h with h|h
       .exact Zl h
       .exact Zp (Zl h)
      .intro i _ h;exact Zl h
def Co(l:Lf)(W:Zc):Obj:=
 match (l:Unit⊕(Zj⊕(Zc⊕Zf)))with
 |Zt _=>dq 122 0 ⟨#[]⟩ eE eE W
 |Zm (Zt t)=>dq (if t then 116 else 102) 0 ⟨#[]⟩ eE eE W
 |Zm (Zm (Zt n))=>dq 110 n ⟨#[]⟩ eE eE W
 |Zm (Zm (Zm s))=>dq 115 0 s eE eE W
def DO(w:Zi)(A:Za->Prop)(l:Lf)(p:Ze):Prop:=∃m W,p=.pointer (O ⟨m,0,Zb⟩)/\A m/\w.heap[m]?=O (Co l W)
def br:(n:Za)->Zi->(Za->Prop)->VT n->Ze->Prop
 |0,w,A,v,p=>DO w A v p
 |n+1,w,A,v,p=>
  match (v:Lf⊕(Zd (VT n)⊕(Zd Zf×Zd (VT n))))with
  |Zt l=>DO w A l p
  |Zm (Zt vs)=>∃m W l ps,p=.pointer (O ⟨m,0,Zb⟩)/\A m/\w.heap[m]?=O (dq 108 0 ⟨#[]⟩ l eE W)/\ao w 51 l ps/\(∀g,l.ownBlock=O g->A g)/\bO (br n w A) vs ps
  |Zm (Zm (ks,vs))=>∃m W l ksl ps,p=.pointer (O ⟨m,0,Zb⟩)/\A m/\w.heap[m]?=O (dq 111 0 ⟨#[]⟩ l ksl W)/\ao w 51 l ps/\ao w 9 ksl (kv ks)/\(∀g,l.ownBlock=O g->A g)/\(∀g,ksl.ownBlock=O g->A g)/\ks.length=vs.length/\bO (br n w A) vs ps
theorem ao.same(h:ao w e v xs)(hs:∀k,v.ownBlock=O k->w'.heap[k]?=w.heap[k]?):ao w' e v xs:=by
 refine⟨h.1,?_⟩;rcases h.2 with h2|⟨g,cap,cur,rfl,h0,hg,r⟩
 .exact .inl h2
 .exact .inr ⟨g,cap,cur,rfl,h0,by rw[hs g rfl];exact hg,r⟩
theorem br.keep:∀(n:Za) {w w':Zi} {A B:Za->Prop} {v:VT n} {p:Ze},br n w A v p->(∀k o,A k->w.heap[k]?=O o->w'.heap[k]?=w.heap[k]?/\B k)->br n w' B v p
 |0,w,w',A,B,v,p,h,hk=>by
  obtain⟨m,W,hp,hA,hh⟩:=h;exact⟨m,W,hp,(hk m _ hA hh).2,by rw[(hk m _ hA hh).1];exact hh⟩
 |n+1,w,w',A,B,v,p,h,hk=>by
  match v,h with
  |Zt l,h=>
   obtain⟨m,W,hp,hA,hh⟩:=h;exact⟨m,W,hp,(hk m _ hA hh).2,by rw[(hk m _ hA hh).1];exact hh⟩
  |Zm (Zt vs),h=>
   obtain⟨m,W,l,ps,hp,hA,hh,hr,hl,cG⟩:=h;have ER:∀g,l.ownBlock=O g->∃o,w.heap[g]?=O o:=λg hg=>⟨_,ZC (hr.lt hg)⟩
   refine⟨m,W,l,ps,hp,(hk m _ hA hh).2,by rw[(hk m _ hA hh).1];exact hh,hr.same (λg hg=>?_),λg hg=>?_,cG.mono (λa b eA=>br.keep n eA hk)⟩
   .obtain⟨o,ho⟩:=ER g hg;exact(hk g o (hl g hg) ho).1
   .obtain⟨o,ho⟩:=ER g hg;exact(hk g o (hl g hg) ho).2
  |Zm (Zm (ks,vs)),h=>
   obtain⟨m,W,l,ksl,ps,hp,hA,hh,hr,me,hl,dO,az,cG⟩:=h;have ER:∀g,l.ownBlock=O g->∃o,w.heap[g]?=O o:=λg hg=>⟨_,ZC (hr.lt hg)⟩
   have RI:∀g,ksl.ownBlock=O g->∃o,w.heap[g]?=O o:=λg hg=>⟨_,ZC (me.lt hg)⟩
   refine⟨m,W,l,ksl,ps,hp,(hk m _ hA hh).2,by rw[(hk m _ hA hh).1];exact hh,hr.same (λg hg=>?_),me.same (λg hg=>?_),λg hg=>?_,λg hg=>?_,az,cG.mono (λa b eA=>br.keep n eA hk)⟩
   .obtain⟨o,ho⟩:=ER g hg;exact(hk g o (hl g hg) ho).1
   .obtain⟨o,ho⟩:=RI g hg;exact(hk g o (dO g hg) ho).1
   .obtain⟨o,ho⟩:=ER g hg;exact(hk g o (hl g hg) ho).2
   .obtain⟨o,ho⟩:=RI g hg;exact(hk g o (dO g hg) ho).2
theorem MI(l:Lf)(W:Zc):∃kind n s,Co l W=dq kind n s eE eE W:=by
 unfold Co;split <;> exact⟨_,_,_,rfl⟩
def ox(w:Zi)(A:Za->Prop)(p:Ze):Prop:=∃m kind k s l ks wt,p=.pointer (O ⟨m,0,Zb⟩)/\A m/\w.heap[m]?=O (dq kind k s l ks wt)
theorem br.some1:∀(n:Za) {w:Zi} {A:Za->Prop} {v:VT n} {p:Ze},br n w A v p->ox w A p
 |0,w,A,v,p,h=>by
  obtain⟨m,W,hp,hA,hh⟩:=h;obtain⟨kind,k,s,e⟩:=MI v W;rw[e]at hh;exact⟨m,kind,k,s,_,_,W,hp,hA,hh⟩
 |n+1,w,A,v,p,h=>by
  match v,h with
  |Zt l,h=>
   obtain⟨m,W,hp,hA,hh⟩:=h;obtain⟨kind,k,s,e⟩:=MI l W;rw[e]at hh;exact⟨m,kind,k,s,_,_,W,hp,hA,hh⟩
  |Zm (Zt vs),h=>
   obtain⟨m,W,l,ps,hp,hA,hh,_⟩:=h;exact⟨m,_,_,_,_,_,W,hp,hA,hh⟩
  |Zm (Zm (ks,vs)),h=>
   obtain⟨m,W,l,ksl,ps,hp,hA,hh,_⟩:=h;exact⟨m,_,_,_,_,_,W,hp,hA,hh⟩
theorem ox.mono{p:Ze}(h:ox w A p)(k:∀m,A m->B m):ox w B p:=by
 obtain⟨m,a1,a2,a3,a4,a5,a6,hp,hA,hh⟩:=h;exact⟨m,a1,a2,a3,a4,a5,a6,hp,k m hA,hh⟩
theorem br.leaf(n:Za){l:Lf}{W:Zc}(hA:A m)(h:w.heap[m]?=O (Co l W)):br n w A (VT.leaf n l) (.pointer (O ⟨m,0,Zb⟩)):=by
 cases n with
 |zero=>exact⟨m,W,rfl,hA,h⟩
 |succ n=>exact⟨m,W,rfl,hA,h⟩
def lk{α:Type}(r:Zx Za (α×Za×Zj))(v:α)(k:Za)(bad:Zc)(lg:Zj):Prop:=
 match r with
 |.ok x=>bad=-1/\v=x.1/\k=x.2.1/\lg=x.2.2
 |.error p=>bad=(p:Zc)
def A7(n:Za):Prop:=
 ∀(b:Za) (s:Zf) (k:Za) (d:Zc) (lg:Zj) (w:Zi),d+n=12->0<=d->w.heap[b]?=O (aq s k d (-1) lg)->s.size<=1000->k<=s.size ->
  Zw prog 78 #[.pointer (O ⟨b,0,Zb⟩)] w λe w'=>∃p v k' bad' lg',e=.returned p/\ab b w w'/\XX (bad'<0->br n w' (λm=>w.heap.size<=m) v p)/\ox w' (λm=>w.heap.size<=m) p/\w'.heap[b]?=O (aq s k' d bad' lg')/\-1<=bad'/\XX (bad'<0->k<=k'/\k'<=s.size)/\XX (lk (cZ n s k lg) v k' bad' lg')
def qz:(n:Za)->Zf->Za->Zj->Zj->Zx Za (VT n×Za×Zj)
 |0,_,k,_,_=>.error k
 |n+1,s,k,lg,obj=>
  if obj then(f8 (cZ n s) s (s.size+1) Zo (ak s (k+1)) lg [] []).map λr=>(VT.obj r.1.1 r.1.2,r.2)
  else(gH (cZ n s) s (s.size+1) Zo (ak s (k+1)) lg []).map λr=>(VT.list r.1,r.2)
theorem MB{c:Zc}(h:c<48\/57<c):aK c=Zk:=by simp[aK];omega
theorem T7(h1:gb s k≠34)(h2:gb s k≠45)(h3:aK (gb s k)=Zk)(h4:gb s k≠110)(h5:gb s k≠102)(h6:gb s k≠116):iV s k lg=.error k:=by
 rw[iV,Zg h1,Zg (by simp[h2,h3]),Zg h4,Zg h5,Zg h6]
theorem Un(obj:Zj)(h:gb s (ak s k)=if obj then 123 else 91):cZ n s k lg=qz n s (ak s k) lg obj:=by
 cases n with
 |zero=>
  cases obj
  all_goals
   simp at h;simp only[cZ,qz];rw[T7 (by omega) (by omega) (MB (by omega)) (by omega) (by omega) (by omega)];rfl
 |succ n=>
  cases obj
  .simp at h;simp only[cZ,qz];rw[Zn h];rfl
  .simp at h;simp only[cZ,qz];rw[Zg (by omega),Zn h];rfl
theorem Ad(h1:gb s (ak s k)≠91)(h2:gb s (ak s k)≠123):cZ n s k lg=(iV s (ak s k) lg).map λr=>(VT.leaf n r.1,r.2):=by
 cases n with
 |zero=>rfl
 |succ n=>simp only[cZ];rw[Zg h1,Zg h2]
def CX(n:Za):Prop:=
 ∀(b:Za) (s:Zf) (k:Za) (d:Zc) (lg obj:Zj) (w:Zi),d+n=12->0<=d->w.heap[b]?=O (aq s k d (-1) lg)->s.size<=1000->k<s.size ->
  Zw prog 122 #[.pointer (O ⟨b,0,Zb⟩),.bool obj] w λe w'=>∃p v k' bad' lg',e=.returned p/\ab b w w'/\XX (bad'<0->br n w' (λm=>w.heap.size<=m) v p)/\ox w' (λm=>w.heap.size<=m) p/\w'.heap[b]?=O (aq s k' d bad' lg')/\-1<=bad'/\XX (bad'<0->k<=k'/\k'<=s.size)/\XX (lk (qz n s k lg obj) v k' bad' lg')
theorem Ji(b:Za)(s:Zf)(k:Za)(d bad:Zc)(lg:Zj)(w:Zi)(hb:w.heap[b]?=O (aq s k d bad lg))(bU:0<=bad):
 Zw prog 78 #[.pointer (O ⟨b,0,Zb⟩)] w λe w'=>∃m,e=.returned (.pointer (O ⟨m,0,Zb⟩))/\w.heap.size<=m/\ab b w w'/\w'.heap[b]?=O (aq s k d bad lg)/\w'.heap[m]?=O (Co Lf.null 1):=by
 have HB:XX (w.heap[b]?=O (aq s k d bad lg)):=hb;have HD:XX (0<=bad):=bU;clear hb bU;go_enter func78,ntmps78;go_wp2_with (first
  |(go_at_call 79;refine(rm b s k d bad lg _ (by exact HB.o) HD.o).mono ?_;rintro e w1 ⟨rfl,dG,eP⟩)
  |(go_at_call 121;refine(dC b s k d bad lg _ (by exact eP)).mono ?_;rintro e w2 ⟨rfl,n,rfl⟩;rw[ro s k HD.o])
  |(go_at_call 129;refine(KU b s k d bad lg _ (by exact eP) HD.o).mono ?_;rintro e w3 ⟨rfl,rfl⟩)
  |(go_at_call 127;refine(IJ _).mono ?_;rintro e w4 ⟨rfl,rfl⟩))
 go_ret;exact⟨_,rfl,dG.size,(dG.drewN _).alloc _,cj (W:=w1.drewN _) eP,aE rfl⟩
theorem Od{lit:Zd Zv}{k':Za}{bad':Zc}{l:Lf}(h:aQ s k (-1) lit=(k',bad'))(v:VT n)(hv:v=VT.leaf n l)
 (hp:iV s k lg=if(aQ s k (-1) lit).2<0 then .ok (l,(aQ s k (-1) lit).1,lg)else .error (aQ s k (-1) lit).2.toNat):lk ((iV s k lg).map λr=>(VT.leaf n r.1,r.2)) v k' bad' lg:=by
 rw[hp,h];simp only;by_cases hn:bad'<0
 .rw[Zn hn];have:=Jk h hn;exact⟨by omega,hv,rfl,rfl⟩
 .rw[Zg hn];show bad'=_;omega
theorem FQ:∀{l:Zd Zv} {k:Za} {k':Za} {bad bad':Zc},aQ s k bad l=(k',bad')->k<=k'
 |[],k,k',bad,bad',h=>by simp only[aQ,ZA]at h;omega
 |c::cs,k,k',bad,bad',h=>by
  simp only[aQ]at h;split at h
  .have:=FQ h;omega
  .simp only[ZA]at h;omega
theorem FR:∀{l:Zd Zv} {k:Za} {k':Za} {bad bad':Zc},aQ s k bad l=(k',bad')->k<=s.size->k'<=s.size
 |[],k,k',bad,bad',h,hk=>by simp only[aQ,ZA]at h;omega
 |c::cs,k,k',bad,bad',h,hk=>by
  simp only[aQ]at h;split at h
  .rename_i hc
   have:=(qC (s:=s) (k:=k) (bad:=bad) (by omega)).1;exact FR h (by omega)
  .simp only[ZA]at h;omega
theorem FM:∀(f k:Za) (acc:Zd Zv),acc.length<=4*k->k<=s.size->(dR s f k acc).1.length<=4*(s.size+1)
 |0,k,acc,h,hk=>by simp[dR]
 |f+1,k,acc,h,hk=>by
  have hg:0<=gb s k->k<s.size:=cC;simp only[dR];split
  .simp;omega
  .split
   .simp
   .split
    .split
     .rename_i hm
      have:=Cq hm;have hx:(s.extract k (et s k (-1)).1).data.toList.length=(et s k (-1)).1-k:=by
       have:(s.extract k (et s k (-1)).1).size=(et s k (-1)).1-k:=by simp[Zf.size_extract];omega
       exact this
      exact FM f _ _ (by rw[Zz,hx];omega) (by omega)
     .simp
    .split
     .split
      .rename_i hm
       have:=GT hm;exact FM f _ _ (by rw[Zz];omega) (by omega)
      .simp
     .have:=hg (by omega);exact FM f _ _ (by rw[Zz];simp;omega) (by omega)
theorem wA(hs:s.size<=1000):(⟨(aw s k).1.toArray⟩:Zf).size<=100000:=by
 show(aw s k).1.toArray.size<=100000;unfold aw;split
 .rename_i h
  have hk:=cC (s:=s) (k:=k) (by omega);have:=FM (s:=s) (s.size+1) (k+1) [] (by simp) (by omega);simp;omega
 .simp
theorem CQ:∀(f k:Za) (acc:Zd Zv),(-1<=(dR s f k acc).2.2)/\((dR s f k acc).2.2<0->(dR s f k acc).2.1<=s.size/\(dR s f k acc).2.2=-1)
 |0,k,acc=>by simp[dR] <;> omega
 |f+1,k,acc=>by
  simp only[dR];split
  .rename_i h
   have:=cC (s:=s) (k:=k) (by omega);simp <;> omega
  .split
   .simp <;> omega
   .split
    .split
     .exact CQ f _ _
     .simp <;> omega
    .split
     .split
      .exact CQ f _ _
      .simp <;> omega
     .exact CQ f _ _
theorem G9(s:Zf)(k:Za)(bad lo hi:Zc):k<=(dw s k bad lo hi).2.1:=by
 unfold dw;split <;> simp
theorem agj(s:Zf)(k:Za)(bad:Zc):k<=(et s k bad).1:=by
 simp only[et];have h1:=G9 s k bad 194 244;generalize dw s k bad 194 244=r1 at *
 have h2:=G9 s r1.2.1 r1.2.2 (if r1.1=240 then 144 else if r1.1=224 then 160 else 128) (if r1.1=244 then 143 else if r1.1=237 then 159 else 191);generalize dw s r1.2.1 r1.2.2 (if r1.1=240 then 144 else if r1.1=224 then 160 else 128) (if r1.1=244 then 143 else if r1.1=237 then 159 else 191)=r2 at *
 have h3:r2.2.1<=(if 224<=r1.1 then dw s r2.2.1 r2.2.2 128 191 else r2).2.1:=by
  split
  .exact G9 _ _ _ _ _
  .exact Zu _
 generalize (if 224<=r1.1 then dw s r2.2.1 r2.2.2 128 191 else r2)=r3 at *
 have h4:r3.2.1<=(if 240<=r1.1 then dw s r3.2.1 r3.2.2 128 191 else r3).2.1:=by
  split
  .exact G9 _ _ _ _ _
  .exact Zu _
 omega
theorem xt(s:Zf)(k:Za)(bad lo hi:Zc):k<=(bQ s k bad lo hi).2.1:=by
 unfold bQ;split <;> simp
theorem aka(s:Zf)(k:Za)(bad:Zc)(l:Zd Zv):k<=(aQ s k bad l).1:=FQ (s:=s) (l:=l) (k:=k) (bad:=bad) (k':=(aQ s k bad l).1) (bad':=(aQ s k bad l).2) rfl
theorem acp(s:Zf)(k:Za)(bad:Zc):k<=(gj s k bad).2.1:=by
 simp only[gj];have h1:=xt s k bad 0 15;generalize bQ s k bad 0 15=r1 at *
 have h2:=xt s r1.2.1 r1.2.2 0 (if r1.1=13 then 11 else 15);generalize bQ s r1.2.1 r1.2.2 0 (if r1.1=13 then 11 else 15)=r2 at *
 have h3:=xt s r2.2.1 r2.2.2 0 15;generalize bQ s r2.2.1 r2.2.2 0 15=r3 at *
 have h4:=xt s r3.2.1 r3.2.2 0 15;generalize bQ s r3.2.1 r3.2.2 0 15=r4 at *
 split
 .simp only;omega
 .have h5:=aka s r4.2.1 r4.2.2 [92,117];generalize aQ s r4.2.1 r4.2.2 [92,117]=r5 at *
  have h6:=xt s r5.1 r5.2 13 13;generalize bQ s r5.1 r5.2 13 13=r6 at *
  have h7:=xt s r6.2.1 r6.2.2 12 15;generalize bQ s r6.2.1 r6.2.2 12 15=r7 at *
  have h8:=xt s r7.2.1 r7.2.2 0 15;generalize bQ s r7.2.1 r7.2.2 0 15=r8 at *
  have h9:=xt s r8.2.1 r8.2.2 0 15;simp only;omega
theorem acw(s:Zf)(k:Za):k<=(cO s k).2.1:=by
 unfold cO;have:=acp s (k+1) (-1);split
 .simp only;split <;> simp only <;> omega
 .split <;> simp
theorem FL:∀(f k:Za) (acc:Zd Zv),k<=(dR s f k acc).2.1
 |0,k,acc=>by simp[dR]
 |f+1,k,acc=>by
  have hm:=agj s k (-1);have he:=acw s (k+1);simp only[dR];split
  .simp
  .split
   .simp
   .split
    .split
     .exact Zh hm (FL f _ _)
     .simpa using hm
    .split
     .split
      .exact Zh (by omega) (FL f _ _)
      .simp only;omega
     .exact Zh (by omega) (FL f _ _)
theorem N3(s:Zf)(k:Za):k<=(aw s k).2.1:=by
 unfold aw;split
 .exact Zh (by omega) (FL _ _ _)
 .simp
theorem N2(s:Zf)(k:Za):-1<=(aw s k).2.2:=by
 unfold aw;split
 .exact(CQ _ _ _).1
 .simp <;> omega
theorem An(hk:k<=s.size):(aw s k).2.2<0->(aw s k).2.1<=s.size:=by
 unfold aw;split
 .intro h;exact((CQ _ _ _).2 h).1
 .intro h;exact hk
theorem N4(h:(aw s k).2.2<0):(aw s k).2.2=-1:=by
 unfold aw at h⊢;split at h
 .rename_i hc;rw[Zn hc] ;exact((CQ _ _ _).2 h).2
 .simp at h;omega
theorem aju(h:gb s k=34):lk ((iV s k lg).map λr=>(VT.leaf n r.1,r.2)) (VT.leaf n (Lf.str ⟨(aw s k).1.toArray⟩)) (aw s k).2.1 (aw s k).2.2 lg:=by
 rw[iV,Zn h];by_cases hn:(aw s k).2.2<0
 .rw[Zn hn];exact⟨N4 hn,rfl,rfl,rfl⟩
 .rw[Zg hn];show(aw s k).2.2=_;omega
theorem KT{bad:Zc}(hb:-1<=bad)(hk:k<=s.size):-1<=(d9 s k bad).2.2/\(d9 s k bad).2.1<=s.size/\((d9 s k bad).2.2<0->(d9 s k bad).2.2=-1)/\k<=(d9 s k bad).2.1:=by
 unfold d9;split
 .rename_i h
  have vH:=(qC (s:=s) (k:=k) (bad:=bad) (by omega)).1;have gW:(if gb s (k+1)=45\/gb s (k+1)=43 then k+2 else k+1)<=s.size:=by
   split
   .have:=cC (s:=s) (k:=k+1) (by omega);omega
   .omega
  obtain⟨l,k',b',hr⟩:∃l k' b',fI s (if gb s (k+1)=45\/gb s (k+1)=43 then k+2 else k+1)=(l,k',b'):=⟨_,_,_,rfl⟩
  have:=FF hr gW;have um:k<=(if gb s (k+1)=45\/gb s (k+1)=43 then k+2 else k+1):=by split <;> omega
  simp only[hr];omega
 .exact⟨hb,hk,by intro h;simp only at h⊢;omega,Zu _⟩
theorem Ng(hk:k<=s.size):-1<=(eZ s k).2.2/\(eZ s k).2.1<=s.size/\k<=(eZ s k).2.1:=by
 unfold eZ;split
 .rename_i h
  have:=cC (s:=s) (k:=k) (by omega);obtain⟨l,k',b',hr⟩:∃l k' b',fI s (k+1)=(l,k',b'):=⟨_,_,_,rfl⟩
  have:=FF hr (by omega);simp only[hr];omega
 .exact⟨by simp,hk,Zu _⟩
theorem Ob(h:kz s k=O k2)(hk:k<=s.size):k2<=s.size/\k<=k2:=by
 unfold kz at h;split at h
 .rename_i hc
  have:=cC (s:=s) (k:=k) (by omega);injection h with h;omega
 .split at h
  .injection h with h;have:=nK s k hk;have:=qh s k;omega
  .simp at h
theorem TF(hk:k<=s.size)(hm:w.heap[m]?=O (TD (decide (gb s k=45)) (dQ s k).1))(hc:gb s k=45\/aK (gb s k)=Zo):
 ∃l W,w.heap[m]?=O (Co l W)/\lk ((iV s k lg).map λr=>(VT.leaf n r.1,r.2)) (VT.leaf n l) (dQ s k).2.1 (dQ s k).2.2 (uB lg (dQ s k).1)/\-1<=(dQ s k).2.2/\((dQ s k).2.2<0->k<=(dQ s k).2.1/\(dQ s k).2.1<=s.size):=by
 have gV:gb s k≠34:=by rcases hc with h|h <;> first|omega|(simp[aK]at h;omega)
 have em:iV s k lg=if(dQ s k).2.2<0 then .ok (Lf.num (if gb s k=45 then -(((dQ s k).1.getD Zb).getD 0)else((dQ s k).1.getD Zb).getD 0),(dQ s k).2.1,uB lg (dQ s k).1)else .error (dQ s k).2.2.toNat:=by
  rw[iV,Zg gV,Zn hc]
 rw[em];obtain⟨k1,dh⟩:∃k1,k1=if gb s k=45 then k+1 else k:=⟨_,rfl⟩
 have nw:k1<=s.size:=by
  rw[dh];split
  .have:=cC (s:=s) (k:=k) (by omega);omega
  .exact hk
 cases hw:kz s k1 with
 |none=>
  rw[Cu dh hw]at hm⊢;refine⟨Lf.null,1,hm,?_,by simp only;omega,by simp only;omega⟩;simp only;rw[Zg (by omega)];show(k1:Zc)=_;simp
 |some k2=>
  have ek:=Ob hw nw;have aey:k<=k1:=by rw[dh];split <;> omega
  have hp:=Ng ek.1;have he:=KT hp.1 hp.2.1;obtain⟨pt,k3,b3,h3⟩:∃pt k3 b3,eZ s k2=(pt,k3,b3):=⟨_,_,_,rfl⟩
  rw[h3]at he hp;simp only at hp;obtain⟨pw,k4,b4,h4⟩:∃pw k4 b4,d9 s k3 b3=(pw,k4,b4):=⟨_,_,_,rfl⟩
  simp only[h4]at he;rw[rQ dh hw h3 h4]at hm⊢;generalize kI ((s.extract k1 k2).data.toList++pt.data.toList) (((k2-k1:Za):Zc)+pw)=X at *
  simp only at hm⊢;refine⟨Lf.num (if decide (gb s k=45)then -(X.getD 0)else X.getD 0),1,hm,?_,he.1,λ_=>⟨by omega,he.2.1⟩⟩;by_cases hn:b4<0
  .rw[Zn hn];exact⟨he.2.2.1 hn,by simp,rfl,rfl⟩
  .rw[Zg hn];show b4=_;omega
theorem Vn(n:Za)(oC:CX n):A7 n:=by
 intro b s k d lg w hd cy hb hs hk;have lU:XX (CX n):=oC;have Ox:XX (0<=d):=cy;clear cy;have wJ:XX (d+n=12):=hd;clear oC hd;go_enter func78,ntmps78;go_wp2_with fail;refine(rn b s k d lg w hb hs).mono ?_;rintro e w1 ⟨rfl,dG,eP⟩;obtain⟨k1,dh⟩:∃k1,k1=ak s k:=⟨_,rfl⟩
 rw[<-dh]at eP;have HK:XX (k1=ak s k):=dh;have nw:k1<=s.size:=by rw[dh];exact iH s k hk
 obtain⟨c,hc⟩:∃c,c=gb s k1:=⟨_,rfl⟩
 have bF:=iN s k1;rw[<-hc]at bF;have HC:XX (c=gb s k1):=hc;have HB:XX (w1.heap[b]?=O (aq s k1 d (-1) lg)):=eP;clear hb dh eP hc;rcases(show c=91\/c=123\/c=34\/c=45\/(48<=c/\c<=57)\/c=110\/c=102\/c=116\/(c≠91/\c≠123/\c≠34/\c≠45/\(c<48\/57<c)/\c≠110/\c≠102/\c≠116)from by omega)with rfl|rfl|rfl|rfl|⟨h1,h2⟩|rfl|rfl|rfl|⟨n1,n2,n3,n4,n5,n6,n7,n8⟩
 .have rG:k1<s.size:=cC (by rw[<-HC.o];omega);go_wp2_with (first
   |(go_at_call 121;refine(dC b s k1 d (-1) lg _ (by exact HB.o)).mono ?_;rintro e w2 ⟨rfl,nd,rfl⟩;rw[ct,<-HC.o])
   |(go_at_call 122;refine(lU.o b s k1 d lg _ _ wJ.o Ox.o (by exact HB.o) hs rG).mono ?_;rintro e w3 ⟨p,v,k',bad',lg',rfl,bi,cH,fQ,di,uj,gW,dD⟩))
  go_ret;have hB:=(dG.drewN _).trans bi;refine⟨p,v,k',bad',lg',rfl,hB,λhn=>br.keep n (cH.o hn) (λk o hk ho=>⟨rfl,Zh dG.size hk⟩),fQ.mono (λm h=>Zh dG.size h),di,uj,λh=>⟨Zh (by rw[HK.o];exact fJ s k) (gW.o h).1,(gW.o h).2⟩,?_⟩;have e:cZ n s k lg=qz n s k1 lg Zk:=by rw[Un Zk (by rw[<-HK.o,<-HC.o];rfl),<-HK.o]
  show lk _ _ _ _ _;rw[e];exact dD.o
 .have rG:k1<s.size:=cC (by rw[<-HC.o];omega);go_wp2_with (first
   |(go_at_call 121;refine(dC b s k1 d (-1) lg _ (by exact HB.o)).mono ?_;rintro e w2 ⟨rfl,nd,rfl⟩;rw[ct,<-HC.o])
   |(go_at_call 122;refine(lU.o b s k1 d lg _ _ wJ.o Ox.o (by exact HB.o) hs rG).mono ?_;rintro e w3 ⟨p,v,k',bad',lg',rfl,bi,cH,fQ,di,uj,gW,dD⟩))
  go_ret;have hB:=(dG.drewN _).trans bi;refine⟨p,v,k',bad',lg',rfl,hB,λhn=>br.keep n (cH.o hn) (λk o hk ho=>⟨rfl,Zh dG.size hk⟩),fQ.mono (λm h=>Zh dG.size h),di,uj,λh=>⟨Zh (by rw[HK.o];exact fJ s k) (gW.o h).1,(gW.o h).2⟩,?_⟩;have e:cZ n s k lg=qz n s k1 lg Zo:=by rw[Un Zo (by rw[<-HK.o,<-HC.o];rfl),<-HK.o]
  show lk _ _ _ _ _;rw[e];exact dD.o
 .go_wp2_with (first
   |(go_at_call 121;refine(dC b s k1 d (-1) lg _ (by exact HB.o)).mono ?_;rintro e w2 ⟨rfl,nd,rfl⟩;rw[ct,<-HC.o])
   |(go_at_call 123;refine(I9 b s k1 d lg _ (by exact HB.o) hs).mono ?_;rintro e w3 ⟨rfl,bi,di⟩)
   |(go_at_call 124;refine(aiT _ _ ?hsz).mono ?_;rotate_left;rintro e w4 ⟨rfl,rfl⟩))
  case hsz=>exact wA hs
  go_ret;have hB:=(dG.drewN _).trans bi;have e:cZ n s k lg=(iV s k1 lg).map λr=>(VT.leaf n r.1,r.2):=by rw[Ad (by rw[<-HK.o,<-HC.o];omega) (by rw[<-HK.o,<-HC.o];omega),<-HK.o]
  refine⟨_,VT.leaf n (Lf.str ⟨(aw s k1).1.toArray⟩),_,_,_,rfl,hB.alloc _,λ_=>br.leaf n (W:=1+((⟨(aw s k1).1.toArray⟩:Zf).size:Zc)) (Zh hB.size (Zu _)) (aE rfl),⟨_,_,_,_,_,_,_,rfl,hB.size,aE rfl⟩,cj di,N2 s k1,λh=>⟨Zh (by rw[HK.o];exact fJ s k) (N3 s k1),An nw h⟩,?_⟩;show lk _ _ _ _ _;rw[e];exact aju HC.o.symm
 .go_wp2_with (first
   |(go_at_call 121;refine(dC b s k1 d (-1) lg _ (by exact HB.o)).mono ?_;rintro e w2 ⟨rfl,nd,rfl⟩;rw[ct,<-HC.o])
   |(go_at_call 125;refine(TG b s k1 d lg _ (by exact HB.o) hs nw).mono ?_;rintro e w3 ⟨m,rfl,hm,bi,di,Lx⟩))
  go_ret;have hB:=(dG.drewN _).trans bi;have e:cZ n s k lg=(iV s k1 lg).map λr=>(VT.leaf n r.1,r.2):=by rw[Ad (by rw[<-HK.o,<-HC.o];omega) (by rw[<-HK.o,<-HC.o];omega),<-HK.o]
  obtain⟨l,W,hl,dD,kK,gW⟩:=TF (n:=n) (lg:=lg) nw Lx (by rw[<-HC.o];exact Zl rfl);refine⟨_,VT.leaf n l,_,_,_,rfl,hB,λ_=>br.leaf n (Zh dG.size hm) hl,br.some1 n (br.leaf n (Zh dG.size hm) hl),di,kK,λh=>⟨Zh (by rw[HK.o];exact fJ s k) (gW h).1,(gW h).2⟩,?_⟩;show lk _ _ _ _ _;rw[e];exact dD
 .have e1:(c==91)=Zk:=Zr.2 (by omega);have e2:(c==123)=Zk:=Zr.2 (by omega);go_wp2_with (first
   |(go_at_call 121;refine(dC b s k1 d (-1) lg _ (by exact HB.o)).mono ?_;rintro e w2 ⟨rfl,nd,rfl⟩;rw[ct,<-HC.o])
   |(go_at_call 125;refine(TG b s k1 d lg _ (by exact HB.o) hs nw).mono ?_;rintro e w3 ⟨m,rfl,hm,bi,di,Lx⟩))
  go_ret;have hB:=(dG.drewN _).trans bi;have e:cZ n s k lg=(iV s k1 lg).map λr=>(VT.leaf n r.1,r.2):=by rw[Ad (by rw[<-HK.o,<-HC.o];omega) (by rw[<-HK.o,<-HC.o];omega),<-HK.o]
  obtain⟨l,W,hl,dD,kK,gW⟩:=TF (n:=n) (lg:=lg) nw Lx (by rw[<-HC.o];exact Zp (by simp[aK];omega));refine⟨_,VT.leaf n l,_,_,_,rfl,hB,λ_=>br.leaf n (Zh dG.size hm) hl,br.some1 n (br.leaf n (Zh dG.size hm) hl),di,kK,λh=>⟨Zh (by rw[HK.o];exact fJ s k) (gW h).1,(gW h).2⟩,?_⟩;show lk _ _ _ _ _;rw[e];exact dD
 .go_wp2_with (first
   |(go_at_call 121;refine(dC b s k1 d (-1) lg _ (by exact HB.o)).mono ?_;rintro e w2 ⟨rfl,nd,rfl⟩;rw[ct,<-HC.o])
   |(go_at_call 126;refine(uJ b s _ k1 d (-1) lg _ (by exact HB.o) hs (by omega) (by decide)).mono ?_;rintro e w3 ⟨k',bad',rfl,bi,di,hr,xn⟩)
   |(go_at_call 127;refine(IJ _).mono ?_;rintro e w4 ⟨rfl,rfl⟩))
  go_ret;have hB:=(dG.drewN _).trans bi;have e:cZ n s k lg=(iV s k1 lg).map λr=>(VT.leaf n r.1,r.2):=by rw[Ad (by rw[<-HK.o,<-HC.o];omega) (by rw[<-HK.o,<-HC.o];omega),<-HK.o]
  refine⟨_,VT.leaf n (Lf.null),k',bad',lg,rfl,hB.alloc _,λ_=>br.leaf n (W:=1) hB.size (aE rfl),⟨_,_,_,_,_,_,_,rfl,hB.size,aE rfl⟩,cj di,xn,λ_=>⟨Zh (by rw[HK.o];exact fJ s k) (FQ hr.o),FR hr.o nw⟩,?_⟩;show lk _ _ _ _ _;rw[e];exact Od hr.o _ rfl (by rw[iV,Zg (by rw[<-HC.o];omega),Zg (by rw[<-HC.o];simp[aK]),Zn HC.o.symm])
 .go_wp2_with (first
   |(go_at_call 121;refine(dC b s k1 d (-1) lg _ (by exact HB.o)).mono ?_;rintro e w2 ⟨rfl,nd,rfl⟩;rw[ct,<-HC.o])
   |(go_at_call 126;refine(uJ b s _ k1 d (-1) lg _ (by exact HB.o) hs (by omega) (by decide)).mono ?_;rintro e w3 ⟨k',bad',rfl,bi,di,hr,xn⟩)
   |(go_at_call 128;refine(Vd _ _).mono ?_;rintro e w4 ⟨rfl,rfl⟩))
  go_ret;have hB:=(dG.drewN _).trans bi;have e:cZ n s k lg=(iV s k1 lg).map λr=>(VT.leaf n r.1,r.2):=by rw[Ad (by rw[<-HK.o,<-HC.o];omega) (by rw[<-HK.o,<-HC.o];omega),<-HK.o]
  refine⟨_,VT.leaf n (Lf.truth Zk),k',bad',lg,rfl,hB.alloc _,λ_=>br.leaf n (W:=1) hB.size (aE rfl),⟨_,_,_,_,_,_,_,rfl,hB.size,aE rfl⟩,cj di,xn,λ_=>⟨Zh (by rw[HK.o];exact fJ s k) (FQ hr.o),FR hr.o nw⟩,?_⟩;show lk _ _ _ _ _;rw[e];exact Od hr.o _ rfl (by rw[iV,Zg (by rw[<-HC.o];omega),Zg (by rw[<-HC.o];simp[aK]),Zg (by rw[<-HC.o];omega),Zn HC.o.symm])
 .go_wp2_with (first
   |(go_at_call 121;refine(dC b s k1 d (-1) lg _ (by exact HB.o)).mono ?_;rintro e w2 ⟨rfl,nd,rfl⟩;rw[ct,<-HC.o])
   |(go_at_call 126;refine(uJ b s _ k1 d (-1) lg _ (by exact HB.o) hs (by omega) (by decide)).mono ?_;rintro e w3 ⟨k',bad',rfl,bi,di,hr,xn⟩)
   |(go_at_call 128;refine(Vd _ _).mono ?_;rintro e w4 ⟨rfl,rfl⟩))
  go_ret;have hB:=(dG.drewN _).trans bi;have e:cZ n s k lg=(iV s k1 lg).map λr=>(VT.leaf n r.1,r.2):=by rw[Ad (by rw[<-HK.o,<-HC.o];omega) (by rw[<-HK.o,<-HC.o];omega),<-HK.o]
  refine⟨_,VT.leaf n (Lf.truth Zo),k',bad',lg,rfl,hB.alloc _,λ_=>br.leaf n (W:=1) hB.size (aE rfl),⟨_,_,_,_,_,_,_,rfl,hB.size,aE rfl⟩,cj di,xn,λ_=>⟨Zh (by rw[HK.o];exact fJ s k) (FQ hr.o),FR hr.o nw⟩,?_⟩;show lk _ _ _ _ _;rw[e];exact Od hr.o _ rfl (by rw[iV,Zg (by rw[<-HC.o];omega),Zg (by rw[<-HC.o];simp[aK]),Zg (by rw[<-HC.o];omega),Zg (by rw[<-HC.o];omega),Zn HC.o.symm])
 .have e1:(c==91)=Zk:=Zr.2 n1;have e2:(c==123)=Zk:=Zr.2 n2;have e3:(c==34)=Zk:=Zr.2 n3;have e4:(c==45)=Zk:=Zr.2 n4;have e6:(c==110)=Zk:=Zr.2 n6;have e7:(c==102)=Zk:=Zr.2 n7;have e8:(c==116)=Zk:=Zr.2 n8;have HE:XX (cZ n s k lg=.error k1):=by
   show _=_;rw[Ad (by rw[<-HK.o,<-HC.o];exact n1) (by rw[<-HK.o,<-HC.o];exact n2),<-HK.o];rw[T7 (by rw[<-HC.o];exact n3) (by rw[<-HC.o];exact n4) (MB (by rw[<-HC.o];exact n5)) (by rw[<-HC.o];exact n6) (by rw[<-HC.o];exact n7) (by rw[<-HC.o];exact n8)];rfl
  clear n1 n2 n3 n4 n6 n7 n8;rcases n5 with n5|n5
  all_goals
   go_wp2_with (first
    |(go_at_call 121;refine(dC b s k1 d (-1) lg _ (by exact HB.o)).mono ?_;rintro e w2 ⟨rfl,nd,rfl⟩;rw[ct,<-HC.o])
    |(go_at_call 129;refine(ug b s k1 d lg _ (by exact HB.o)).mono ?_;rintro e w3 ⟨rfl,bi,di⟩)
    |(go_at_call 127;refine(IJ _).mono ?_;rintro e w4 ⟨rfl,rfl⟩))
   go_ret;have hB:=(dG.drewN _).trans bi;refine⟨_,VT.leaf n Lf.null,k1,k1,lg,rfl,hB.alloc _,λ_=>br.leaf n (W:=1) hB.size (aE rfl),⟨_,_,_,_,_,_,_,rfl,hB.size,aE rfl⟩,cj di,by omega,λ_=>⟨by rw[HK.o];exact fJ s k,nw⟩,?_⟩;show lk _ _ _ _ _;rw[HE.o];rfl
theorem A8{vs:Zd (VT n)}(h:bO (br n w A) vs ps)(hk:∀k o,A k->w.heap[k]?=O o->w'.heap[k]?=w.heap[k]?/\B k):bO (br n w' B) vs ps:=
 h.mono (λa b eA=>br.keep n eA hk)
theorem af6{N M:Za}{w2 w3:Zi}{l' p2:Ze}{vs:Zd (VT n)}{v2:VT n}(cG:bO (br n w2 (λm=>N<m/\l.ownBlock≠O m)) vs ps)(cH:br n w2 (λm=>M<=m) v2 p2)
 (hNM:N<M) (hl:∀g,l.ownBlock=O g->N<g/\g<M) (hl':∀g,l'.ownBlock=O g->l.ownBlock=O g\/w2.heap.size<=g) (Hg:M<=w2.heap.size) (hc:cI (λk=>k=N\/l.ownBlock=O k) w2 w3):
 bO (br n w3 (λm=>N<m/\l'.ownBlock≠O m)) (vs++[v2]) (ps++[p2])/\∀g,l'.ownBlock=O g->N<g:=by
 have key:∀k o,(N<k/\l.ownBlock≠O k)->w2.heap[k]?=O o->w3.heap[k]?=w2.heap[k]?/\(N<k/\l'.ownBlock≠O k):=by
  intro k o ⟨h1,h2⟩ ho;have hk:=al ho;refine⟨hc.block k hk (by rintro(h|h) <;> first|omega|exact h2 h),h1,?_⟩;intro e;rcases hl' k e with h|h
  .exact h2 h
  .omega
 refine⟨bO.snoc (br.keep n cH ?_) (A8 cG key),?_⟩
 .intro k o hk ho;exact key k o ⟨by omega,λe=>by have:=hl k e;omega⟩ ho
 .intro g hg;rcases hl' g hg with h|h
  .exact(hl g h).1
  .omega
theorem Th{item:Za->Zj->Zx Za (α×Za×Zj)}{acc:Zd α}(h:gb s k=93):gH item s (f+1) fst k lg acc=.ok (acc,k+1,lg):=by rw[gH,Zn h]
theorem MJ{item:Za->Zj->Zx Za (α×Za×Zj)}{acc:Zd α}(h:gb s k≠93)(h2:gb s k≠44):gH item s (f+1) Zk k lg acc=.error k:=by rw[gH,Zg h,Zn ⟨rfl,h2⟩]
theorem MK{item:Za->Zj->Zx Za (α×Za×Zj)}{acc:Zd α}{p:Za}(h:gb s k≠93)(h2:fst=Zo\/gb s k=44)(hi:item (if fst then k else k+1) lg=.error p):gH item s (f+1) fst k lg acc=.error p:=by
 rw[gH,Zg h,Zg (by rcases h2 with h2|h2 <;> simp[h2]),hi]
theorem ML{item:Za->Zj->Zx Za (α×Za×Zj)}{acc:Zd α}{v:α}{lg2:Zj}(h:gb s k≠93)(h2:fst=Zo\/gb s k=44)(hi:item (if fst then k else k+1) lg=.ok (v,k2,lg2)):
 gH item s (f+1) fst k lg acc=gH item s f Zk (ak s k2) lg2 (acc++[v]):=by
 rw[gH,Zg h,Zg (by rcases h2 with h2|h2 <;> simp[h2]),hi]
theorem PF:CX 0:=by
 intro b s k d lg obj w hd cy hb hs hk;obtain⟨g0,g1,g2,g3,g4,hf⟩:=fS hb;have BG:(d==12)=Zo:=beq_iff_eq.2 (by omega);have HB:XX (w.heap[b]?=O (aq s k d (-1) lg)):=hb;have ed:=al hb;clear hb g0 g1 g3 g4 hf hd;cases obj
 .go_enter func122,ntmps122;go_wp2_with (go_at_call 129;refine(ug b s k d lg _ (by exact cj HB.o)).mono ?_;rintro e w3 ⟨rfl,bi,di⟩)
  go_ret;have hm:w3.heap[w.heap.size]?=O (dq 108 0 ⟨#[]⟩ eE eE 1):=(bi.block _ (by simp) (by intro e;injection e;omega)).trans (aE rfl);exact⟨_,VT.leaf 0 Lf.null,k,k,lg,rfl,((ab.refl b w).alloc _).trans bi,λh=>absurd h (by omega),⟨_,_,_,_,_,_,_,rfl,Zu _,hm⟩,di,by omega,λh=>absurd h (by omega),rfl⟩
 .go_enter func122,ntmps122;go_wp2_with (go_at_call 129;refine(ug b s k d lg _ (by exact cj HB.o)).mono ?_;rintro e w3 ⟨rfl,bi,di⟩)
  go_ret;have hm:w3.heap[w.heap.size]?=O (dq 111 0 ⟨#[]⟩ eE eE 1):=(bi.block _ (by simp) (by intro e;injection e;omega)).trans (aE rfl);exact⟨_,VT.leaf 0 Lf.null,k,k,lg,rfl,((ab.refl b w).alloc _).trans bi,λh=>absurd h (by omega),⟨_,_,_,_,_,_,_,rfl,Zu _,hm⟩,di,by omega,λh=>absurd h (by omega),rfl⟩
end Go.Proofs.YtdlgkgfeoiohiaaGreatDoor
