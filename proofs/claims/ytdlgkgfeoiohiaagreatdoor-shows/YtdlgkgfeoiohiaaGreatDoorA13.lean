/- Part 13. -/
import Derived.Test.YtdlgkgfeoiohiaaGreatDoorA07
import Derived.Test.YtdlgkgfeoiohiaaGreatDoorA08
import Derived.LaidEql
import Derived.Stop.Asserts
import Derived.RowKitTokens
open Bool renaming true -> Zf,false -> Zj
open Go renaming World -> Zc,Value -> Zd,Addr -> Zh,Calls -> Zk,TypeId -> Zp,rounds_succ -> Zt,method -> Zw,wp_loop_rounds -> Zz,loadVar -> ZD
open Go.Addr renaming add_lit -> ZL
open Go.Calls renaming mono -> ZM
open Go.Instr renaming typeAssert -> Zx
open Go.IntKind renaming u8 -> ZN
open Go.Result renaming andThen -> Zv
open Go.RowKit renaming Below -> Zm
open Go.RowKit.Below renaming refl -> ZA
open Go.Sem renaming run_bind -> ZJ
open Go.Value renaming ownBlock -> ZC,int -> ZP
open Go.World renaming cell? -> Zo,cell?_alloc_lt -> ZG,frozen? -> ZK
open Go.World.ownsRow renaming alloc -> ZQ,cells -> ZU,lt -> ZV
open List renaming getElem?_cons_succ -> ZE,getElem?_eq_getElem -> ZH,length_set -> ZI,set_cons_succ -> ZO
open Nat renaming le_refl -> ZB
open Option renaming some -> O,none -> Za,map_eq_some_iff -> Zr
open Sum renaming inr -> Zl,inl -> Zq
open _root_ renaming Nat -> Zb,List -> Ze,ByteArray -> Zg,Bool -> Zi,if_neg -> Zn,Except -> Zu,if_pos -> Zy
namespace Go.Proofs.YtdlgkgfeoiohiaaGreatDoor
set_option linter.unusedVariables false
set_option maxHeartbeats 16000000
set_option maxRecDepth 100000
open Go.RowKit J Tryz
variable {w w':Zc}{s:Zg}{n k g cap:Zb}{xs:Ze Zd}{ks:Ze Zg}{v x:Zd}{lg:Zi}{α:Type}{L S N A J La:Zh}
def MC(c:Int):Zi:=aK c || (c==43 || (c==45 || (c==46 || (c==101 || c==69))))
theorem MD{c:Int}(h:MC c=Zf):c≠93/\c≠44/\c≠125/\kT c=Zj/\0<c:=by
 simp[MC,aK]at h;refine⟨by omega,by omega,by omega,?_,by omega⟩;simp[kT];omega
def nI(s:Zg)(k:Zb):Option (Option Int)×Zb×Int:=
 if False then((dQ s k).1,(dQ s k).2.1,((dQ s k).2.1:Int))else dQ s k
theorem MW(s:Zg)(k:Zb):nI s k=dQ s k:=by rw[nI,Zn (λh=>h)]
theorem agC(h:0<=(dQ s k).2.2):nI s k=dQ s k:=MW s k
def mT(s:Zg)(k:Zb)(lg:Zi):Zu Zb (Lf×Zb×Zi):=
 if gb s k=34 then(if(aw s k).2.2<0 then .ok (Lf.str ⟨(aw s k).1.toArray⟩,(aw s k).2.1,lg)else .error (aw s k).2.2.toNat)
 else if gb s k=45\/aK (gb s k)=Zf then
  (if(nI s k).2.2<0 then .ok (Lf.num (if gb s k=45 then -(((nI s k).1.getD Za).getD 0)else((nI s k).1.getD Za).getD 0),(nI s k).2.1,uB lg (nI s k).1)else .error (nI s k).2.2.toNat)
 else if gb s k=110 then(if(aQ s k (-1) [110,117,108,108]).2<0 then .ok (Lf.null,(aQ s k (-1) [110,117,108,108]).1,lg)else .error (aQ s k (-1) [110,117,108,108]).2.toNat)
 else if gb s k=102 then(if(aQ s k (-1) [102,97,108,115,101]).2<0 then .ok (Lf.truth Zj,(aQ s k (-1) [102,97,108,115,101]).1,lg)else .error (aQ s k (-1) [102,97,108,115,101]).2.toNat)
 else if gb s k=116 then(if(aQ s k (-1) [116,114,117,101]).2<0 then .ok (Lf.truth Zf,(aQ s k (-1) [116,114,117,101]).1,lg)else .error (aQ s k (-1) [116,114,117,101]).2.toNat)
 else .error k
def fu:(n:Zb)->Zg->Zb->Zi->Zu Zb (VT n×Zb×Zi)
 |0,s,k,lg=>(mT s (ak s k) lg).map λr=>(VT.leaf 0 r.1,r.2)
 |n+1,s,k,lg=>
  if gb s (ak s k)=91 then(gH (fu n s) s (s.size+1) Zf (ak s (ak s k+1)) lg []).map λr=>(VT.list r.1,r.2)
  else if gb s (ak s k)=123 then(f8 (fu n s) s (s.size+1) Zf (ak s (ak s k+1)) lg [] []).map λr=>(VT.obj r.1.1 r.1.2,r.2)
  else(mT s (ak s k) lg).map λr=>(VT.leaf (n+1) r.1,r.2)
def DY:(n:Zb)->Zg->Zb->Zi->Zi->Zu Zb (VT n×Zb×Zi)
 |0,_,k,_,_=>.error k
 |n+1,s,k,lg,obj=>
  if obj then(f8 (fu n s) s (s.size+1) Zf (ak s (k+1)) lg [] []).map λr=>(VT.obj r.1.1 r.1.2,r.2)
  else(gH (fu n s) s (s.size+1) Zf (ak s (k+1)) lg []).map λr=>(VT.list r.1,r.2)
theorem ahl(h1:gb s k≠34)(h2:gb s k≠45)(h3:aK (gb s k)=Zj)(h4:gb s k≠110)(h5:gb s k≠102)(h6:gb s k≠116):mT s k lg=.error k:=by
 rw[mT,Zn h1,Zn (by simp[h2,h3]),Zn h4,Zn h5,Zn h6]
theorem Ul(obj:Zi)(h:gb s (ak s k)=if obj then 123 else 91):fu n s k lg=DY n s (ak s k) lg obj:=by
 cases n with
 |zero=>
  cases obj
  all_goals
   simp at h;simp only[fu,DY];rw[ahl (by omega) (by omega) (MB (by omega)) (by omega) (by omega) (by omega)];rfl
 |succ n=>
  cases obj
  .simp at h;simp only[fu,DY];rw[Zy h];rfl
  .simp at h;simp only[fu,DY];rw[Zn (by omega),Zy h];rfl
theorem ah1(h1:gb s (ak s k)≠91)(h2:gb s (ak s k)≠123):fu n s k lg=(mT s (ak s k) lg).map λr=>(VT.leaf n r.1,r.2):=by
 cases n with
 |zero=>rfl
 |succ n=>simp only[fu];rw[Zn h1,Zn h2]
def wW{α:Type}(s:Zg)(r r':Zu Zb (α×Zb×Zi)):Prop:=r'=r\/∃x,r=.ok x/\MC (gb s x.2.1)=Zf/\r'=.error x.2.1
theorem wW.map{β:Type}{r r':Zu Zb (α×Zb×Zi)}(h:wW s r r')(f:α->β):wW s (r.map λx=>(f x.1,x.2)) (r'.map λx=>(f x.1,x.2)):=by
 rcases h with h|⟨x,h1,h2,h3⟩
 .left;rw[h]
 .right;rw[h1,h3];exact⟨_,rfl,h2,rfl⟩
theorem T9(s:Zg)(k:Zb)(lg:Zi):wW s (iV s k lg) (mT s k lg):=by
 left
 unfold iV mT;rw[MW]
theorem Ti{item itemQ:Zb->Zi->Zu Zb (α×Zb×Zi)}(hi:∀k lg,wW s (item k lg) (itemQ k lg)):∀(f:Zb) (fst:Zi) (k:Zb) (lg:Zi) (acc:Ze α),gH itemQ s f fst k lg acc=gH item s f fst k lg acc
 |0,fst,k,lg,acc=>rfl
 |f+1,fst,k,lg,acc=>by
  rw[gH,gH];split
  .rfl
  .split
   .rfl
   .rcases hi (if fst=Zf then k else k+1) lg with h|⟨x,h1,h2,h3⟩
    .rw[h];cases item (if fst=Zf then k else k+1) lg with
     |error p=>rfl
     |ok r=>exact Ti hi f _ _ _ _
    .rw[h1,h3];obtain⟨n1,n2,n3,n4,n5⟩:=MD h2;show _=gH item s f Zj (ak s x.2.1) x.2.2 (acc++[x.1]);rw[uH n4];cases f with
     |zero=>rfl
     |succ f=>rw[MJ n1 n2]
theorem TJ{item itemQ:Zb->Zi->Zu Zb (α×Zb×Zi)}(hi:∀k lg,wW s (item k lg) (itemQ k lg)):∀(f:Zb) (fst:Zi) (k:Zb) (lg:Zi) (ks:Ze Zg) (acc:Ze α),f8 itemQ s f fst k lg ks acc=f8 item s f fst k lg ks acc
 |0,fst,k,lg,ks,acc=>rfl
 |f+1,fst,k,lg,ks,acc=>by
  rw[f8,f8];split
  .rfl
  .split
   .rfl
   .obtain⟨k0,fe⟩:∃k0,k0=ak s (if fst=Zf then k else k+1):=⟨_,rfl⟩
    simp only[<-fe];by_cases h1:0<=(aw s k0).2.2
    .rw[Zy h1,Zy h1]
    .rw[Zn h1,Zn h1];by_cases h2:gb s (ak s (aw s k0).2.1)≠58
     .rw[Zy h2,Zy h2]
     .rw[Zn h2,Zn h2];rcases hi (ak s (aw s k0).2.1+1) lg with h|⟨x,h1,h2,h3⟩
      .rw[h];cases item (ak s (aw s k0).2.1+1) lg with
       |error p=>rfl
       |ok r=>exact TJ hi f _ _ _ _ _
      .rw[h1,h3];obtain⟨n1,n2,n3,n4,n5⟩:=MD h2;simp only;rw[uH n4];cases f with
       |zero=>rfl
       |succ f=>rw[M0 n3 n2]
theorem IS:∀(n:Zb) (s:Zg) (k:Zb) (lg:Zi),wW s (cZ n s k lg) (fu n s k lg)
 |0,s,k,lg=>(T9 s (ak s k) lg).map _
 |n+1,s,k,lg=>by
  simp only[cZ,fu];split
  .left;rw[Ti (IS n s)]
  .split
   .left;rw[TJ (IS n s)]
   .exact(T9 s (ak s k) lg).map _
theorem Ns{r:VT n×Zb×Zi}(h:fu n s k lg=.ok r):cZ n s k lg=.ok r:=by
 rcases IS n s k lg with h1|⟨x,h1,h2,h3⟩
 .rw[<-h1];exact h
 .rw[h3]at h;cases h
theorem gp{p:Prop}(h:p):XX p:=h
def mV(l:Lf):Zd:=
 match (l:Unit⊕(Zi⊕(Int⊕Zg)))with
 |Zq _=>.iface 75 (.agg #[])
 |Zl (Zq t)=>.iface 77 (.bool t)
 |Zl (Zl (Zq n))=>.iface 97 (.int .i64 n)
 |Zl (Zl (Zl s))=>.iface 80 (.string s)
def mv:Ze Zg->Ze Zd->Ze Zd
 |k::ks,x::xs=>.string k::x::mv ks xs
 |_,_=>[]
theorem MP:∀(ks:Ze Zg) (xs:Ze Zd) (k:Zg) (x:Zd),ks.length=xs.length->mv (ks++[k]) (xs++[x])=mv ks xs++[.string k,x]
 |[],[],k,x,_=>rfl
 |k'::ks,y::xs,k,x,h=>by simp only[Ze.cons_append,mv,MP ks xs k x (by simpa using h)]
 |[],x::xs,_,_,h=>by simp at h
 |k::ks,[],_,_,h=>by simp at h
theorem IB:∀(ks:Ze Zg) (xs:Ze Zd) (i:Zb) (k:Zg),ks.length=xs.length->ks[i]?=O k->(mv ks xs)[i*2]?=O (.string k)
 |k'::ks,y::xs,0,k,h,hk=>by simp at hk;simp[mv,hk]
 |k'::ks,y::xs,i+1,k,h,hk=>by
  have ih:=IB ks xs i k (by simpa using h) (by simpa using hk);simp only[mv];rw[show(i+1)*2=i*2+1+1 by omega,ZE,ZE];exact ih
 |[],_,_,k,h,hk=>by simp at hk
 |k::ks,[],_,_,h,_=>by simp at h
theorem MQ:∀(ks:Ze Zg) (xs:Ze Zd) (i:Zb) (x:Zd),ks.length=xs.length->xs[i]?=O x->(mv ks xs)[i*2+1]?=O x
 |k'::ks,y::xs,0,x,h,hk=>by simp at hk;simp[mv,hk]
 |k'::ks,y::xs,i+1,x,h,hk=>by
  have ih:=MQ ks xs i x (by simpa using h) (by simpa using hk);simp only[mv];rw[show(i+1)*2+1=i*2+1+1+1 by omega,ZE,ZE];exact ih
 |_,[],_,x,h,hk=>by simp at hk
 |[],y::xs,_,_,h,_=>by simp at h
theorem Tu:∀(ks:Ze Zg) (xs:Ze Zd) (i:Zb) (x:Zd),ks.length=xs.length->(mv ks xs).set (i*2+1) x=mv ks (xs.set i x)
 |k'::ks,y::xs,0,x,h=>by simp[mv]
 |k'::ks,y::xs,i+1,x,h=>by
  have ih:=Tu ks xs i x (by simpa using h);simp only[mv,ZO];rw[show(i+1)*2=i*2+1+1 by omega,ZO,ih]
 |[],[],_,_,_=>by simp[mv]
 |[],y::xs,_,_,h=>by simp at h
 |k::ks,[],_,_,h=>by simp at h
def fM(w:Zc)(v:Zd)(ks:Ze Zg)(xs:Ze Zd):Prop:=ks.length=xs.length/\w.ownsRow 0 164 2 v xs.length (mv ks xs)
theorem fM.nil(w:Zc):fM w (.slice Za 0 0) [] []:=⟨rfl,Zc.ownsRow_nil _ _ _ _⟩
theorem fM.same(h:fM w v ks xs)(hs:∀k,v.ownBlock=O k->w'.heap[k]?=w.heap[k]?):fM w' v ks xs:=by
 refine⟨h.1,h.2.1,?_⟩;rcases h.2.2 with h2|⟨g,cap,cur,rfl,h0,hg,r⟩
 .exact .inl h2
 .exact .inr ⟨g,cap,cur,rfl,h0,by rw[hs g rfl];exact hg,r⟩
theorem fM.lt(h:fM w v ks xs)(hk:v.ownBlock=O k):k<w.heap.size:=(ZV h.2 k hk).2
theorem fM.kept{S:Zb->Prop}(h:fM w v ks xs)(hc:cI S w w')(hn:∀k,v.ownBlock=O k->¬S k):fM w' v ks xs:=
 h.same (λk hk=>hc.block k (h.lt hk) (hn k hk))
theorem fM.len(h:fM w v ks xs):(v=.slice Za 0 0/\xs=[])\/∃g cap,v=.slice (O ⟨g,0,Za⟩) xs.length cap/\xs.length<=cap:=by
 rcases h.2.2 with⟨h2,h3⟩|⟨g',cap',cur,h2,h0,hg,hc,r⟩
 .exact Or.inl ⟨h2,Ze.eq_nil_of_length_eq_zero h3⟩
 .exact Or.inr ⟨g',cap',h2,hc⟩
theorem fM.get(h:fM w (.slice (O ⟨g,0,Za⟩) n cap) ks xs){i:Zb}{u:Zd}(hu:(mv ks xs)[i]?=O u):w.cell? ⟨g,i,Za⟩=O u:=by
 have:=ZU h.2 (g:=g) rfl i u hu;rw[ZL]at this;simpa using this
theorem fM.free(h:fM w (.slice (O ⟨g,0,Za⟩) n cap) ks xs):∀o,w.frozen? ⟨g,o,Za⟩=Zj:=by
 rcases h.2.2 with⟨h2,_⟩|⟨g',cap',cur,h2,h0,hg,r⟩
 .cases h2
 .injection h2 with h3 h4 h5;injection h3 with h3;injection h3 with h3;subst h3;intro o;simp[ZK,hg]
theorem fM.set(h:fM w (.slice (O ⟨g,0,Za⟩) n cap) ks xs)(i:Zb)(u:Zd):fM (w.setCell ⟨g,i*2+1,Za⟩ u) (.slice (O ⟨g,0,Za⟩) n cap) ks (xs.set i u):=by
 refine⟨by rw[ZI];exact h.1,?_⟩;rw[<-Tu ks xs i u h.1,ZI];refine⟨by rw[ZI];exact h.2.1,?_⟩;rcases h.2.2 with⟨h2,_⟩|⟨g',cap',cur,h2,h0,hg,hc,hm,aH,fd⟩
 .cases h2
 .injection h2 with h3 h4 h5;injection h3 with h3;injection h3 with h3;subst h3;refine Or.inr ⟨g,cap',cur.setIfInBounds (i*2+1) u,by rw[h4,h5],h0,cY hg u,hc,hm,by simpa using aH,?_⟩;rw[Array.toList_setIfInBounds,Ze.take_set,fd]
def db:(n:Zb)->Zc->(Zb->Prop)->VT n->Zd->Prop
 |0,w,A,v,x=>x=mV v
 |n+1,w,A,v,x=>
  match (v:Lf⊕(Ze (VT n)⊕(Ze Zg×Ze (VT n))))with
  |Zq l=>x=mV l
  |Zl (Zq vs)=>∃sl xs,x=.iface 101 sl/\ao w 27 sl xs/\(∀g,sl.ownBlock=O g->A g)/\bO (db n w A) vs xs
  |Zl (Zl (ks,vs))=>∃sl xs,x=.iface 104 sl/\fM w sl ks xs/\(∀g,sl.ownBlock=O g->A g)/\bO (db n w A) vs xs
theorem db.keep:∀(n:Zb) {w w':Zc} {A B:Zb->Prop} {v:VT n} {x:Zd},db n w A v x->(∀k,A k->k<w.heap.size->w'.heap[k]?=w.heap[k]?/\B k)->db n w' B v x
 |0,w,w',A,B,v,x,h,hk=>h
 |n+1,w,w',A,B,v,x,h,hk=>by
  match v,h with
  |Zq l,h=>exact h
  |Zl (Zq vs),h=>
   obtain⟨sl,xs,hx,hr,hl,cG⟩:=h;exact⟨sl,xs,hx,hr.same (λg hg=>(hk g (hl g hg) (hr.lt hg)).1),λg hg=>(hk g (hl g hg) (hr.lt hg)).2,cG.mono (λa b eA=>db.keep n eA hk)⟩
  |Zl (Zl (ks,vs)),h=>
   obtain⟨sl,xs,hx,hr,hl,cG⟩:=h;exact⟨sl,xs,hx,hr.same (λg hg=>(hk g (hl g hg) (hr.lt hg)).1),λg hg=>(hk g (hl g hg) (hr.lt hg)).2,cG.mono (λa b eA=>db.keep n eA hk)⟩
theorem DS{A B:Zb->Prop}{vs:Ze (VT n)}(h:bO (db n w A) vs xs)(hk:∀k,A k->k<w.heap.size->w'.heap[k]?=w.heap[k]?/\B k):bO (db n w' B) vs xs:=
 h.mono (λa b eA=>db.keep n eA hk)
theorem db.leaf(n:Zb)(w:Zc)(A:Zb->Prop)(l:Lf):db n w A (VT.leaf n l) (mV l):=by
 cases n with
 |zero=>exact rfl
 |succ n=>exact rfl
def eI(x:Zd):Prop:=x=.nilIface\/∃t v,x=.iface t v
theorem eI.one(h:eI x):x.oneCell'=Zf:=by rcases h with rfl|⟨t,v,rfl⟩ <;> rfl
theorem CA(l:Lf):eI (mV l):=by unfold mV;split <;> exact .inr ⟨_,_,rfl⟩
theorem db.isif:∀(n:Zb) {w:Zc} {A:Zb->Prop} {v:VT n} {x:Zd},db n w A v x->eI x
 |0,w,A,v,x,h=>by have h':x=mV v:=h;rw[h'];exact CA v
 |n+1,w,A,v,x,h=>by
  match v,h with
  |Zq l,h=>have h':x=mV l:=h;rw[h'];exact CA l
  |Zl (Zq vs),h=>obtain⟨sl,xs,rfl,_⟩:=h;exact .inr ⟨_,_,rfl⟩
  |Zl (Zl (ks,vs)),h=>obtain⟨sl,xs,rfl,_⟩:=h;exact .inr ⟨_,_,rfl⟩
theorem afr:(prog.info? 164).map (λi=>(i.zero,i.size,i.bytes))=O (O (.agg #[.string ⟨#[]⟩,.nilIface]),2,32):=by kernel_rfl
theorem Po{ops:Array Oper}{rest:Ze Oper}{o:Oper}{a:Act}{Q:Exit->Act->Zc->Prop}(hgd:o.guard=Za)(s x:Operand)
 (ho:o.op=.call { callee:=.builtin .append,args:=#[s,x],argTypes:=#[104,104] })
 (v:Zd) (ks:Ze Zg) (xs:Ze Zd) (hs:a.eval s=v) (am:fM w v ks xs) (ad:Zh) (c:Zb) (key:Zg) (nv:Zd) (hx:a.eval x=.slice (O ad) 1 c)
 (hk:w.cell? (ad.add 0)=O (.string key)) (hv:w.cell? (ad.add 1)=O nv) (h1:nv.oneCell'=Zf) (hl:xs.length<=1000000) (H:Zb) (hH:w.heap.size=H)
 (h:∀g cap w',fM w' (.slice (O ⟨g,0,Za⟩) (xs.length+1) cap) (ks++[key]) (xs++[nv])->w.grownBy w' v.ownBlock->(v.ownBlock=O g\/g=H)->g<w'.heap.size->wpList prog ops Q rest (a.put o.dst (.slice (O ⟨g,0,Za⟩) (xs.length+1) cap)) w'):wpList prog ops Q (o::rest) a w:=by
 obtain⟨i0,hi,ip,ee,dP⟩:=info_parts afr;have hb:(xs.length+1)*32<=140737488355328:=by omega
 refine wpList_append_lies _ hgd s x 104 ho 0 164 i0 (.agg #[.string ⟨#[]⟩,.nilIface]) 2 32 underlying104 hi ip ee dP (by rfl) (by decide) v xs.length (mv ks xs) hs am.2 ad 1 c [.string key,nv] hx (by simp) ?_ ?_ (by omega) (by unfold maxLen;omega) hb (Zb.zero_le _) H hH ?_
 .intro j u hj
  match j,hj with
  |0,hj=>simp at hj;subst hj;exact hk
  |1,hj=>simp at hj;subst hj;exact hv
 .intro u hu;simp at hu;rcases hu with rfl|rfl
  .rfl
  .exact h1
 .intro g cap w' r1 r2 r3 r4;refine h g cap w' ⟨by simp[am.1],?_⟩ r2 r3 r4;rw[MP ks xs key nv am.1,Ze.length_append];exact r1
theorem CR{W:Zc}{y:Zd}{t:Zp}(h:W.heap.size=n):(W.alloc (.cells #[x,y] t)).cell? ((⟨n,0,Za⟩:Zh).add 0)=O x/\(W.alloc (.cells #[x,y] t)).cell? ((⟨n,0,Za⟩:Zh).add 1)=O y:=by
 have hh:(W.alloc (.cells #[x,y] t)).heap[n]?=O (.cells #[x,y] t (0,0)):=aE h;constructor <;> simp[ZL,Zo,hh]
theorem ahI(ks:Ze Zg)(xs:Ze Zd)(key:Zg)(x:Zd)(sl:Zd)(i0:Zb)(w:Zc)(jf:fM w sl ks xs)(hx:eI x)(az:xs.length<=2000)(dM:∀j,j<i0->ks[j]?≠O key)(oK:ks[i0]?=O key):
 Zk prog 106 #[sl,.string key,x] w λe w'=>e=.returned sl/\fM w' sl ks (xs.set i0 x)/\cI (λk=>sl.ownBlock=O k) w w':=by
 have BN:i0<ks.length:=(Ze.getElem?_eq_some_iff.1 oK).1;have dO:ks.length=xs.length:=jf.1;rcases jf.len with⟨rfl,rK⟩|⟨g,cap,rfl,Ru⟩
 .subst rK;simp at dO;rw[dO]at BN;simp at BN
 have p9:∀j k',ks[j]?=O k'->w.cell? ⟨g,j*2,Za⟩=O (.string k'):=λj k' h=>jf.get (IB ks xs j k' dO h)
 have SJ:∀j v',xs[j]?=O v'->w.cell? ⟨g,j*2+1,Za⟩=O v':=λj v' h=>jf.get (MQ ks xs j v' dO h)
 have HM:XX (fM w (.slice (O ⟨g,0,Za⟩) xs.length cap) ks xs):=jf;have AI:XX (∀j k',ks[j]?=O k'->w.cell? ⟨g,j*2,Za⟩=O (.string k')):=p9;have HVC:XX (∀j v',xs[j]?=O v'->w.cell? ⟨g,j*2+1,Za⟩=O v'):=SJ;have ga:XX (∀j,j<i0->ks[j]?≠O key):=dM;have aaJ:XX (ks[i0]?=O key):=oK;clear jf p9 SJ dM oK;rcases hx with rfl|⟨tx,vx,rfl⟩
 all_goals
  go_enter func106,ntmps106;go_wp2_with fail;go_loopg [10] (i0+1) (λgg iv wr=>w=wr/\∃i:Zb,i<=i0/\gg=i0+1-i/\iv=.int .i64 i)
  case atStart=>exact⟨rfl,0,by omega,by omega,rfl⟩
  case round=>
   obtain⟨rfl,i,hi,hg,rfl⟩:=hrel;have HG:XX (gk=i0+1-i):=hg;have jL:i<ks.length:=by omega
   have BP:i<xs.length:=by omega
   obtain⟨ki,kj⟩:∃ki,ks[i]?=O ki:=⟨ks[i]'jL,ZH jL⟩
   obtain⟨vi,SK⟩:∃vi,xs[i]?=O vi:=⟨xs[i]'BP,ZH BP⟩
   have ck:=AI.o i ki kj;have cv':=HVC.o i vi SK;have Hx:=HM.o.free;clear hg SK;by_cases ai:i<i0
   .have bj:=ww (show ki≠key by intro e;apply ga.o i ai;rw[kj,e]);clear kj cv' Hx;go_wp2;go_roundg (i0+1-(i+1))
    case measure=>rw[HG.o];omega
    case rel=>exact⟨rfl,i+1,by omega,rfl,by go_num⟩
   .have LS:i=i0:=by omega
    subst LS;have ul:=xU (show ki=key by have:=aaJ.o;rw[this]at kj;injection kj with h;exact h.symm);clear kj;go_wp2;go_ret;exact⟨rfl,HM.o.set i _,cI.setCell (S:=λk=>(Zd.slice (O ⟨g,0,Za⟩) xs.length cap).ownBlock=O k) (cI.refl _ w) (b:=g) rfl _ _⟩
theorem ahJ(ks:Ze Zg)(xs:Ze Zd)(key:Zg)(x:Zd)(sl:Zd)(w:Zc)(jf:fM w sl ks xs)(hx:eI x)(az:xs.length<=2000)(dM:∀j,j<ks.length->ks[j]?≠O key):
 Zk prog 106 #[sl,.string key,x] w λe w'=>∃sl',e=.returned sl'/\fM w' sl' (ks++[key]) (xs++[x])/\cI (λk=>sl.ownBlock=O k) w w'/\(∀g,sl'.ownBlock=O g->sl.ownBlock=O g\/w.heap.size<=g):=by
 have dO:ks.length=xs.length:=jf.1;have HM:XX (fM w sl ks xs):=jf;have ga:XX (∀j,j<ks.length->ks[j]?≠O key):=dM;obtain⟨X,hX⟩:∃X,X=x:=⟨_,rfl⟩
 have HX:XX (X=x):=hX;have pW:X.oneCell'=Zf:=by rw[hX];exact hx.one
 clear hX;rcases hx with rfl|⟨tx,vx,rfl⟩
 all_goals
  rcases jf.len with⟨rfl,rK⟩|⟨g,cap,rfl,Ru⟩
  .subst rK;clear jf dM dO;go_enter func106,ntmps106;go_wp2_with fail;go_loopg [10] 1 (λgg iv wr=>w=wr/\iv=.int .i64 0)
   case atStart=>exact⟨rfl,rfl⟩
   case round=>
    obtain⟨rfl,rfl⟩:=hrel;go_wp2_with (at_builtin;go_loud (refine Po rfl (.tmp 27) (.tmp 31) rfl _ ks [] rfl ?h1 _ _ key X rfl ?h2 ?h3 pW ?h4 _ rfl ?_))
    case h1=>exact⟨HM.o.1,ZQ HM.o.2 _⟩
    case h2=>exact(CR rfl).1
    case h3=>rw[HX.o];exact(CR rfl).2
    case h4=>simp
    intro g1 cap1 w2 E1 an cQ ai;have uS:=gp an;have pE:=gp cQ;have Ds:=gp E1;clear an cQ E1;go_wp2;go_ret;refine⟨_,rfl,by rw[<-HX.o];exact Ds.o,((cI.refl _ w).alloc _).trans (cI.of_grown uS.o),?_⟩;intro i hi;rcases pE.o with h|h
    .simp[ZC]at h
    .simp[ZC]at hi;have h':g1=w.heap.size+1:=h;right;omega
  .have p9:∀j k',ks[j]?=O k'->w.cell? ⟨g,j*2,Za⟩=O (.string k'):=λj k' h=>jf.get (IB ks xs j k' dO h)
   have AI:XX (∀j k',ks[j]?=O k'->w.cell? ⟨g,j*2,Za⟩=O (.string k')):=p9;clear jf dM p9;go_enter func106,ntmps106;go_wp2_with fail;go_loopg [10] (ks.length+1) (λgg iv wr=>w=wr/\∃i:Zb,i<=ks.length/\gg=ks.length+1-i/\iv=.int .i64 i)
   case atStart=>exact⟨rfl,0,by omega,by omega,rfl⟩
   case round=>
    obtain⟨rfl,i,hi,hg,rfl⟩:=hrel;have HG:XX (gk=ks.length+1-i):=hg;clear hg;by_cases ai:i<ks.length
    .have BP:i<xs.length:=by omega
     obtain⟨ki,kj⟩:∃ki,ks[i]?=O ki:=⟨ks[i]'ai,ZH ai⟩
     have ck:=AI.o i ki kj;have bj:=ww (show ki≠key by intro e;apply ga.o i ai;rw[kj,e]);clear kj;go_wp2;go_roundg (ks.length+1-(i+1))
     case measure=>rw[HG.o];omega
     case rel=>exact⟨rfl,i+1,by omega,rfl,by go_num⟩
    .have LS:i=xs.length:=by omega
     subst LS;clear ai;go_wp2_with (at_builtin;go_loud (refine Po rfl (.tmp 27) (.tmp 31) rfl _ ks xs rfl ?h1 _ _ key X rfl ?h2 ?h3 pW ?h4 _ rfl ?_))
     case h1=>exact⟨HM.o.1,ZQ HM.o.2 _⟩
     case h2=>exact(CR rfl).1
     case h3=>rw[HX.o];exact(CR rfl).2
     case h4=>omega
     intro g1 cap1 w2 E1 an cQ ai;have uS:=gp an;have pE:=gp cQ;have Ds:=gp E1;clear an cQ E1;go_wp2;go_ret;refine⟨_,rfl,by rw[<-HX.o];exact Ds.o,((cI.refl _ w).alloc _).trans (cI.of_grown uS.o),?_⟩;intro i hi;rcases pE.o with h|h
     .simp[ZC]at hi h;left;simp[ZC];omega
     .simp[ZC]at hi;have h':g1=w.heap.size+1:=h;right;omega
theorem ahH(ks:Ze Zg)(xs:Ze Zd)(key:Zg)(x:Zd)(sl:Zd)(w:Zc)(jf:fM w sl ks xs)(hx:eI x)(az:xs.length<=2000):
 Zk prog 106 #[sl,.string key,x] w λe w'=>∃sl',e=.returned sl'/\fM w' sl' (jP ks key) (fB ks xs key x)/\cI (λk=>sl.ownBlock=O k) w w'/\(∀g,sl'.ownBlock=O g->sl.ownBlock=O g\/w.heap.size<=g):=by
 rcases KW ks key with h|⟨i,h1,h2⟩
 .obtain⟨e1,e2⟩:=Nr ks xs key x jf.1 h;rw[e1,e2];exact ahJ ks xs key x sl w jf hx az h
 .obtain⟨e1,e2⟩:=Nq ks xs key x i jf.1 h1 h2;rw[e1,e2];refine(ahI ks xs key x sl i w jf hx az h1 h2).mono ?_;rintro e w' ⟨rfl,h3,h4⟩;exact⟨sl,rfl,h3,h4,λg hg=>.inl hg⟩
section
open Go.RowKit Go.Extern.Stop Go.Stop Go.Extern
theorem FU(v:Zd)(w:Zc):(ReflectliteType.typeOf #[.iface 279 v]).run prog w=.ok (.iface 145 (.agg #[.pointer (O ⟨15,279,Za⟩)])) w:=by kernel_rfl
theorem akh(v:Zd)(w:Zc):(ReflectliteType.typeOf #[.iface 45 v]).run prog w=.ok (.iface 145 (.agg #[.pointer (O ⟨15,45,Za⟩)])) w:=by kernel_rfl
def FT : Array Zd → Sem Zd := ReflectliteType.method λt => do Rtype.noPackHeld "Comparable" t; pure (.bool (← typeInfo t).comparable)
theorem Jo(w:Zc):(FT #[.agg #[.pointer (O ⟨15,279,Za⟩)]]).run prog w=.ok (.bool Zf) w:=by kernel_rfl
theorem Jp(v : Zd) (w : Zc): (Zw 437 145 v "Comparable").run prog w = .ok (296, v) w := by kernel_rfl
theorem Jn:(prog.info? 279).map (·.comparable)=O Zf:=by kernel_rfl
theorem Jq:(prog.info? 281).map (·.size)=O 1:=by kernel_rfl
theorem VF(v:Zd)(xT:Zp)(w:Zc):(Zx (.iface 279 v) xT 156 Zf).run prog w=.ok (.tuple #[.nilIface,.bool Zj]) w:=run_typeAssert_lacksB underlying156 (by kernel_rfl) (by kernel_rfl) v xT w
theorem akg(v:Zd)(xT:Zp)(w:Zc):(Zx (.iface 279 v) xT 149 Zf).run prog w=.ok (.tuple #[.nilIface,.bool Zj]) w:=run_typeAssert_lacksB underlying149 (by kernel_rfl) (by kernel_rfl) v xT w
theorem Og(v:Zd)(xT:Zp)(w:Zc):(Zx (.iface 279 v) xT 152 Zf).run prog w=.ok (.tuple #[.nilIface,.bool Zj]) w:=run_typeAssert_lacksB underlying152 (by kernel_rfl) (by kernel_rfl) v xT w
theorem Oh(v:Zd)(xT:Zp)(w:Zc):(Zx (.iface 279 v) xT 153 Zf).run prog w=.ok (.tuple #[.nilIface,.bool Zj]) w:=run_typeAssert_lacksB underlying153 (by kernel_rfl) (by kernel_rfl) v xT w
theorem VE(v:Zd)(xT:Zp)(w:Zc):(Zx (.iface 45 v) xT 156 Zf).run prog w=.ok (.tuple #[.nilIface,.bool Zj]) w:=run_typeAssert_lacksB underlying156 (by kernel_rfl) (by kernel_rfl) v xT w
theorem VC(v:Zd)(xT:Zp)(w:Zc):(Zx (.iface 45 v) xT 152 Zf).run prog w=.ok (.tuple #[.iface 45 v,.bool Zf]) w:=run_typeAssert_hasB underlying152 (by kernel_rfl) v xT w
theorem VD(v : Zd) (w : Zc): (Zw 437 45 v "Unwrap").run prog w = .ok (281, v) w := by kernel_rfl
theorem MF(a:Zh)(w:Zc):
 Zk prog 21 #[.iface 279 (.pointer (O a)),.iface 279 (.pointer (O a))] w λe w'=>e=.returned (.bool Zf)/\w'=w:=by
 obtain⟨i,hi,qG⟩:=Zr.1 Jn;obtain⟨j,hj,l9⟩:=Zr.1 Jq;have h8:=@run_callFunc_extern prog 42 _ ReflectliteType.typeOf func42 (by kernel_rfl) (by kernel_rfl) (by kernel_rfl) (by kernel_rfl);have iA:=@run_callFunc_extern prog 296 _ FT func296 (by kernel_rfl) (by kernel_rfl) (by kernel_rfl) (by kernel_rfl);have tT:=FU;have cT:=Jo;have mR:=Jp;have ul:=run_eql_iface_ptr_same (P:=prog) w a underlying29 underlying279 hi qG hj;go_enter func21,ntmps21;go_wp2;refine Zz 1 ?_;rw[Zt];go_wp2;go_ret;exact⟨rfl,rfl⟩
theorem afS(a b:Zh)(ca cb:Array Zd)(ta tb:Zp)(w:Zc)(bj:a≠b)(ha:w.heap[a.block]?=O (.cells ca ta (0,0)))(hb:w.heap[b.block]?=O (.cells cb tb (0,0))):
 Zk prog 21 #[.iface 279 (.pointer (O a)),.iface 279 (.pointer (O b))] w λe w'=>e=.returned (.bool Zj)/\w'=w:=by
 obtain⟨i,hi,qG⟩:=Zr.1 Jn;obtain⟨j,hj,l9⟩:=Zr.1 Jq;have h8:=@run_callFunc_extern prog 42 _ ReflectliteType.typeOf func42 (by kernel_rfl) (by kernel_rfl) (by kernel_rfl) (by kernel_rfl);have iA:=@run_callFunc_extern prog 296 _ FT func296 (by kernel_rfl) (by kernel_rfl) (by kernel_rfl) (by kernel_rfl);have tT:=FU;have cT:=Jo;have mR:=Jp;have nE:=VF;have uE:=Og;have vE:=Oh;have ul:=run_eql_iface_ptr_other (P:=prog) w underlying29 underlying279 hi qG hj (by rw[l9];decide) bj ha hb;go_enter func21,ntmps21;go_wp2;refine Zz 1 ?_;rw[Zt];go_wp2;go_ret;exact⟨rfl,rfl⟩
theorem afQ(k:Zb)(b:Zh)(w:Zc):
 Zk prog 21 #[aG b k,.iface 279 (.pointer (O b))] w λe w'=>e=.returned (.bool Zf)/\w'=w.alloc (.cells #[.int .i64 k,.iface 279 (.pointer (O b))] 45):=by
 rw[aG];obtain⟨i,hi,qG⟩:=Zr.1 Jn;obtain⟨j,hj,l9⟩:=Zr.1 Jq;have h8:=@run_callFunc_extern prog 42 _ ReflectliteType.typeOf func42 (by kernel_rfl) (by kernel_rfl) (by kernel_rfl) (by kernel_rfl);have iA:=@run_callFunc_extern prog 296 _ FT func296 (by kernel_rfl) (by kernel_rfl) (by kernel_rfl) (by kernel_rfl);have tT:=FU;have cT:=Jo;have mR:=Jp;have nW:=VE;have uW:=VC;have mU:=VD;have ul:=run_eql_iface_ptr_same (P:=prog) (w.alloc (.cells #[.int .i64 k,.iface 279 (.pointer (O b))] 45)) b underlying29 underlying279 hi qG hj;have vU:=run_eql_iface_types (P:=prog) 45 279 (.agg #[.int .i64 k,.iface 279 (.pointer (O b))]) (.pointer (O b)) underlying29 (by decide) w;go_enter func21,ntmps21;go_wp2;refine Zz 2 ?_;rw[Zt];go_wp2;rw[Zt];go_wp2;go_ret;exact⟨rfl,rfl⟩
theorem afP(k:Zb)(a b:Zh)(ca cb:Array Zd)(ta tb:Zp)(w:Zc)(bj:a≠b)(ha:w.heap[a.block]?=O (.cells ca ta (0,0)))(hb:w.heap[b.block]?=O (.cells cb tb (0,0))):
 Zk prog 21 #[aG a k,.iface 279 (.pointer (O b))] w λe w'=>e=.returned (.bool Zj)/\w'=w.alloc (.cells #[.int .i64 k,.iface 279 (.pointer (O a))] 45):=by
 rw[aG];obtain⟨i,hi,qG⟩:=Zr.1 Jn;obtain⟨j,hj,l9⟩:=Zr.1 Jq;have h8:=@run_callFunc_extern prog 42 _ ReflectliteType.typeOf func42 (by kernel_rfl) (by kernel_rfl) (by kernel_rfl) (by kernel_rfl);have iA:=@run_callFunc_extern prog 296 _ FT func296 (by kernel_rfl) (by kernel_rfl) (by kernel_rfl) (by kernel_rfl);have tT:=FU;have cT:=Jo;have mR:=Jp;have nE:=VF;have uE:=Og;have vE:=Oh;have nW:=VE;have uW:=VC;have mU:=VD;have Ew:(w.alloc (.cells #[.int .i64 k,.iface 279 (.pointer (O a))] 45)).heap[a.block]?=O (.cells ca ta (0,0)):=cj ha;have vr:(w.alloc (.cells #[.int .i64 k,.iface 279 (.pointer (O a))] 45)).heap[b.block]?=O (.cells cb tb (0,0)):=cj hb;have ul:=run_eql_iface_ptr_other (P:=prog) (w.alloc (.cells #[.int .i64 k,.iface 279 (.pointer (O a))] 45)) underlying29 underlying279 hi qG hj (by rw[l9];decide) bj Ew vr;have vU:=run_eql_iface_types (P:=prog) 45 279 (.agg #[.int .i64 k,.iface 279 (.pointer (O a))]) (.pointer (O b)) underlying29 (by decide) w;clear Ew vr;go_enter func21,ntmps21;go_wp2;refine Zz 2 ?_;rw[Zt];go_wp2;rw[Zt];go_wp2;go_ret;exact⟨rfl,rfl⟩
end
section
open Go.RowKit Go.Extern.Stop Go.Stop Go.Extern
theorem V2(t:Zh)(w:Zc):(ReflectliteValue.unpack (.iface 47 (.pointer (O t)))).run prog w
 = .ok (.agg #[.pointer (O ⟨15,47,Za⟩),.pointer (O ⟨w.heap.size,0,Za⟩),.int .u64 150]) (w.alloc (.cells #[.pointer (O t)] 47)):=by kernel_rfl
theorem V1(a : Zh) (w : Zc): (ReflectliteValue.methodAny (ReflectliteValue.valueError "reflectlite.Value.Type" 0) (λt _ _ _ => ReflectliteType.toType t) #[.agg #[.pointer (O ⟨15, 47, Za⟩), .pointer (O a), .int .u64 150]]).run prog w
 = .ok (.iface 145 (.agg #[.pointer (O ⟨15,47,Za⟩)])) w:=by kernel_rfl
theorem VZ(h : Zd) (w : Zc): (Zw 437 145 (.agg #[h]) "Kind").run prog w = .ok (277, h) w := by kernel_rfl
theorem VU(w:Zc):((ReflectliteType.abiMethod λt=>Functor.map (λa:Zb=>ZP ZN (a:Int)) (Rtype.kind t)) #[.pointer (O ⟨15,47,Za⟩)]).run prog w=.ok (.int .u8 22) w:=by kernel_rfl
theorem VS(w:Zc):((ReflectliteType.abiMethod λt=>Functor.map (λa:Zb=>ZP ZN (a:Int)) (Rtype.kind t)) #[.pointer (O ⟨15,45,Za⟩)]).run prog w=.ok (.int .u8 25) w:=by kernel_rfl
theorem VV(z:Sem Zd)(f:Zp->Zh->Zb->Zb->Sem Zd)(v:Zd):
 ReflectliteValue.method z f #[v]=(do match <- ReflectliteValue.parts v with|none=>z|some (t,a,fl)=>f t a fl (fl%32)):=rfl
theorem V0(a:Zh)(w:Zc):(ReflectliteValue.parts (.agg #[.pointer (O ⟨15,47,Za⟩),.pointer (O a),.int .u64 150])).run prog w=.ok (O (47,a,150)) w:=by kernel_rfl
theorem VR(a p:Zh)(W:Zc)(ha:W.cell? a=O (.pointer (O p))):
 (ReflectliteValue.method (ReflectliteValue.valueError "reflectlite.Value.IsNil" 0) ReflectliteValue.isNil #[.agg #[.pointer (O ⟨15, 47, Za⟩), .pointer (O a), .int .u64 150]]).run prog W = .ok (.bool Zj) W := by
 rw[VV];simp only[ZJ,V0,Zv];simp[ReflectliteValue.isNil,ZD,isAgg,underlying,underlying47,ha,Zv]
theorem VX(h : Zd) (w : Zc): (Zw 437 145 (.agg #[h]) "Elem").run prog w = .ok (297, .agg #[h]) w := by kernel_rfl
theorem VY(h : Zd) (w : Zc): (Zw 437 145 (.agg #[h]) "Implements").run prog w = .ok (298, .agg #[h]) w := by kernel_rfl
theorem VW(h : Zd) (w : Zc): (Zw 437 145 (.agg #[h]) "AssignableTo").run prog w = .ok (295, .agg #[h]) w := by kernel_rfl
theorem VP(w:Zc):(ReflectliteType.method ReflectliteType.elem #[.agg #[.pointer (O ⟨15,47,Za⟩)]]).run prog w=.ok (.iface 145 (.agg #[.pointer (O ⟨15,45,Za⟩)])) w:=by kernel_rfl
theorem VQ(w : Zc): (ReflectliteType.relation "Implements" ReflectliteType.implements_ #[.agg #[.pointer (O ⟨15, 45, Za⟩)], .iface 145 (.agg #[.pointer (O ⟨15, 29, Za⟩)])]).run prog w = .ok (.bool Zf) w := by kernel_rfl
theorem aki(w : Zc): (ReflectliteType.relation "AssignableTo" ReflectliteType.assignableTo #[.agg #[.pointer (O ⟨15, 45, Za⟩)], .iface 145 (.agg #[.pointer (O ⟨15, 45, Za⟩)])]).run prog w = .ok (.bool Zf) w := by kernel_rfl
theorem akj(w : Zc): (ReflectliteType.relation "AssignableTo" ReflectliteType.assignableTo #[.agg #[.pointer (O ⟨15, 279, Za⟩)], .iface 145 (.agg #[.pointer (O ⟨15, 45, Za⟩)])]).run prog w = .ok (.bool Zj) w := by kernel_rfl
theorem akt(x y:Zd)(w:Zc):(ReflectliteValue.unpack (.iface 45 (.agg #[x,y]))).run prog w
 = .ok (.agg #[.pointer (O ⟨15,45,Za⟩),.pointer (O ⟨w.heap.size,0,Za⟩),.int .u64 153]) (w.alloc (.cells #[x,y] 45)):=by kernel_rfl
theorem akl(w:Zc):(Rtype.elem? 47).run prog w=.ok (O 45) w:=by kernel_rfl
theorem ako(p:Zh)(w:Zc):(ReflectliteValue.mk 45 p ReflectliteValue.flagAddr).run prog w=.ok (.agg #[.pointer (O ⟨15,45,Za⟩),.pointer (O p),.int .u64 409]) w:=by kernel_rfl
theorem akm(a p:Zh)(W:Zc)(ha:W.cell? a=O (.pointer (O p))):
 (ReflectliteValue.method (ReflectliteValue.valueError "reflectlite.Value.Elem" 0) ReflectliteValue.elem #[.agg #[.pointer (O ⟨15, 47, Za⟩), .pointer (O a), .int .u64 150]]).run prog W
  = .ok (.agg #[.pointer (O ⟨15,45,Za⟩),.pointer (O p),.int .u64 409]) W:=by
 rw[VV];simp only[ZJ,V0,Zv];simp[ReflectliteValue.elem,ZD,isAgg,underlying,underlying47,ha,Zv,akl,ako]
theorem akr(v x:Zd):ReflectliteValue.set #[v,x]=(do
 let (O (dst,a,fl),O (src,b,_)):=(<- ReflectliteValue.parts v,<-ReflectliteValue.parts x)
  |unsupported (.noEntry "extern/(internal/reflectlite.Value).Set.zeroValue")
 if fl/ReflectliteValue.flagAddr%2 == 0 then unsupported (.noEntry "extern/(internal/reflectlite.Value).Set.unaddressable")
 let val <- ZD src b
 if <- Rtype.directlyAssignable dst src then storeVar dst a val
 else if <- Rtype.implements dst src then
  if(<- Rtype.kind src)==20 then
   match val with
   |.nilIface => unsupported (.noEntry "extern/reflectlite: a nil value of one interface type handed on as a value of another")
   |_=>storeVar dst a val
  else storeVar dst a (.iface src val)
 else panicString ("reflectlite.Set: value of type " ++ (← Rtype.spelt src) ++ " is not assignable to type " ++ (← Rtype.spelt dst))
 pure (.tuple #[])):=rfl
theorem akq(a:Zh)(w:Zc):(ReflectliteValue.parts (.agg #[.pointer (O ⟨15,45,Za⟩),.pointer (O a),.int .u64 409])).run prog w=.ok (O (45,a,409)) w:=by kernel_rfl
theorem akp(a:Zh)(w:Zc):(ReflectliteValue.parts (.agg #[.pointer (O ⟨15,45,Za⟩),.pointer (O a),.int .u64 153])).run prog w=.ok (O (45,a,153)) w:=by kernel_rfl
theorem akk(w:Zc):(Rtype.directlyAssignable 45 45).run prog w=.ok Zf w:=by kernel_rfl
theorem akn(b:Zb)(x y:Zd)(t:Zp)(W:Zc)(hb:W.heap[b]?=O (.cells #[x,y] t (0,0))):(ZD 45 ⟨b,0,Za⟩).run prog W=.ok (.agg #[x,y]) W:=by
 have c0:W.cell? ⟨b,0,Za⟩=O x:=by simp[Zo,hb]
 have c1:W.cell? ⟨b,1,Za⟩=O y:=by simp[Zo,hb]
 simp[ZD,isAgg,underlying,underlying45,loadCells,loadCellsFrom,Zh.add,c0,c1,Zv]
theorem aks(t b:Zb)(x y o0 o1:Zd)(W:Zc)(hx:x.oneCell'=Zf)(hy:y.oneCell'=Zf)(hb:W.heap[b]?=O (.cells #[x,y] 45 (0,0)))(ht:W.heap[t]?=O (.cells #[o0,o1] 45 (0,0))):
 (ReflectliteValue.set #[.agg #[.pointer (O ⟨15,45,Za⟩),.pointer (O ⟨t,0,Za⟩),.int .u64 409],.agg #[.pointer (O ⟨15,45,Za⟩),.pointer (O ⟨b,0,Za⟩),.int .u64 153]]).run prog W
  = .ok (.tuple #[]) ((W.setCell ⟨t,0,Za⟩ x).setCell ⟨t,1,Za⟩ y):=by
 have c0:W.cell? ⟨t,0,Za⟩=O o0:=by simp[Zo,ht]
 have f0:W.frozen? ⟨t,0,Za⟩=Zj:=by simp[ZK,ht]
 have gq:(W.setCell ⟨t,0,Za⟩ x).heap[t]?=O (.cells #[x,o1] 45 (0,0)):=cY ht x;have c1:(W.setCell ⟨t,0,Za⟩ x).cell? ⟨t,1,Za⟩=O o1:=by simp[Zo,gq]
 have f1:(W.setCell ⟨t,0,Za⟩ x).frozen? ⟨t,1,Za⟩=Zj:=by simp[ZK,gq]
 rw[akr];simp only[ZJ,akq,akp,Zv];simp[ReflectliteValue.flagAddr,akn b x y _ W hb,Zv,akk,storeVar,Zd.cells,storeCells,Zh.add];rw[run_store prog W ⟨t,0,Za⟩ _ _ hx];simp[c0,f0];rw[run_store prog _ ⟨t,1,Za⟩ _ _ hy];simp[c1,f1]
end
section
open Go.RowKit Go.Extern.Stop Go.Stop Go.Extern
theorem GO{o:Zb}(h:w.cell? ⟨g,o,Za⟩=O v):g<w.heap.size:=by
 rcases Zb.lt_or_ge g w.heap.size with hl|hg
 .exact hl
 .simp[Zo,Array.getElem?_eq_none hg]at h
def rZ(w:Zc):Prop:=w.cell? ⟨6,0,Za⟩=O (.iface 145 (.agg #[.pointer (O ⟨15,29,Za⟩)]))
theorem aa2(k:Zb)(J:Zh)(t:Zb)(w:Zc)(hg:rZ w)(ht:w.heap[t]?=O (.cells #[.int .i64 0,.nilIface] 45 (0,0))):
 Zk prog 20 #[aG J k,.iface 47 (.pointer (O ⟨t,0,Za⟩))] w λev w'=>ev=.returned (.bool Zf)/\w'.cell? ⟨t,0,Za⟩=O (.int .i64 k)/\cI (λi=>i=t) w w':=by
 rw[aG];have h6:=@run_callFunc_extern prog 38 _ (λargs=>ReflectliteValue.unpack (args.getD 0 (.tuple #[]))) func38 (by kernel_rfl) (by kernel_rfl) (by kernel_rfl) (by kernel_rfl);have h7 := @run_callFunc_extern prog 39 _ (ReflectliteValue.methodAny (ReflectliteValue.valueError "reflectlite.Value.Type" 0) (λt _ _ _ => ReflectliteType.toType t)) func39 (by kernel_rfl) (by kernel_rfl) (by kernel_rfl) (by kernel_rfl)
 have h8 := @run_callFunc_extern prog 40 _ (ReflectliteValue.method (ReflectliteValue.valueError "reflectlite.Value.IsNil" 0) ReflectliteValue.isNil) func40 (by kernel_rfl) (by kernel_rfl) (by kernel_rfl) (by kernel_rfl)
 have h27:=@run_callFunc_extern prog 277 _ (ReflectliteType.abiMethod λt=>do pure (.int .u8 (<- Rtype.kind t))) func277 (by kernel_rfl) (by kernel_rfl) (by kernel_rfl) (by kernel_rfl);have h37:=@run_callFunc_extern prog 297 _ (ReflectliteType.method ReflectliteType.elem) func297 (by kernel_rfl) (by kernel_rfl) (by kernel_rfl) (by kernel_rfl);have h38 := @run_callFunc_extern prog 298 _ (ReflectliteType.relation "Implements" ReflectliteType.implements_) func298 (by kernel_rfl) (by kernel_rfl) (by kernel_rfl) (by kernel_rfl)
 have lp:=@run_callFunc_extern prog 42 _ ReflectliteType.typeOf func42 (by kernel_rfl) (by kernel_rfl) (by kernel_rfl) (by kernel_rfl);have Hc := @run_callFunc_extern prog 295 _ (ReflectliteType.relation "AssignableTo" ReflectliteType.assignableTo) func295 (by kernel_rfl) (by kernel_rfl) (by kernel_rfl) (by kernel_rfl)
 have pS := @run_callFunc_extern prog 71 _ (ReflectliteValue.method (ReflectliteValue.valueError "reflectlite.Value.Elem" 0) ReflectliteValue.elem) func71 (by kernel_rfl) (by kernel_rfl) (by kernel_rfl) (by kernel_rfl)
 have fD:=@run_callFunc_extern prog 72 _ ReflectliteValue.set func72 (by kernel_rfl) (by kernel_rfl) (by kernel_rfl) (by kernel_rfl);have tO:=akh;have mA:=VW;have a25:=aki;have v25:=akt;have f6:=V2;have f7:=V1;have mK:=VZ;have mE:=VX;have mI:=VY;have k27:=VU;have k25:=VS;have e27:=VP;have i25:=VQ;have iE:t<w.heap.size:=al ht;have BL:6<w.heap.size:=GO hg;obtain⟨W1,mF⟩:∃W1,W1=w.alloc (.cells #[.pointer (O ⟨t,0,Za⟩)] 47):=⟨_,rfl⟩
 obtain⟨W2,jA⟩:∃W2,W2=W1.alloc (.cells #[.pointer (O ⟨15,47,Za⟩),.pointer (O ⟨w.heap.size,0,Za⟩),.int .u64 150] 84):=⟨_,rfl⟩
 obtain⟨W3,Et⟩:∃W3,W3=W2.alloc (.cells #[.pointer (O ⟨15,47,Za⟩),.pointer (O ⟨w.heap.size,0,Za⟩),.int .u64 150] 84):=⟨_,rfl⟩
 obtain⟨W4,Hn⟩:∃W4,W4=W3.alloc (.cells #[.int .i64 k,.iface 279 (.pointer (O J))] 45):=⟨_,rfl⟩
 have b1:W1.heap[w.heap.size]?=O (.cells #[.pointer (O ⟨t,0,Za⟩)] 47 (0,0)):=by rw[mF];exact aE rfl
 have b2:W2.heap[w.heap.size]?=O (.cells #[.pointer (O ⟨t,0,Za⟩)] 47 (0,0)):=by rw[jA];exact cj b1
 have b3:W3.heap[w.heap.size]?=O (.cells #[.pointer (O ⟨t,0,Za⟩)] 47 (0,0)):=by rw[Et];exact cj b2
 have t1:W1.heap[t]?=O (.cells #[.int .i64 0,.nilIface] 45 (0,0)):=by rw[mF];exact cj ht
 have t2:W2.heap[t]?=O (.cells #[.int .i64 0,.nilIface] 45 (0,0)):=by rw[jA];exact cj t1
 have t3:W3.heap[t]?=O (.cells #[.int .i64 0,.nilIface] 45 (0,0)):=by rw[Et];exact cj t2
 have t4:W4.heap[t]?=O (.cells #[.int .i64 0,.nilIface] 45 (0,0)):=by rw[Hn];exact cj t3
 have s3:W3.heap.size=w.heap.size+1+1+1:=by rw[Et,jA,mF];simp
 have v4:W4.heap[w.heap.size+1+1+1]?=O (.cells #[.int .i64 k,.iface 279 (.pointer (O J))] 45 (0,0)):=by rw[Hn];exact aE s3
 have n8:=VR ⟨w.heap.size,0,Za⟩ ⟨t,0,Za⟩ W2 (by simp[Zo,b2]);have el:=akm ⟨w.heap.size,0,Za⟩ ⟨t,0,Za⟩ W3 (by simp[Zo,b3]);have st:=aks t (w.heap.size+1+1+1) (.int .i64 k) (.iface 279 (.pointer (O J))) (.int .i64 0) .nilIface W4 rfl rfl v4 t4;have qI:W2.cell? ⟨6,0,Za⟩=O (.iface 145 (.agg #[.pointer (O ⟨15,29,Za⟩)])):=by
  rw[jA,ZG _ _ ⟨6,0,Za⟩ (by rw[mF];simp;omega),mF,ZG _ _ ⟨6,0,Za⟩ BL];exact hg
 have hC:cI (λi=>i=t) w ((W4.setCell ⟨t,0,Za⟩ (.int .i64 k)).setCell ⟨t,1,Za⟩ (.iface 279 (.pointer (O J)))):=by
  rw[Hn,Et,jA,mF];exact((((((cI.refl (λi=>i=t) w).alloc _).alloc _).alloc _).alloc _).setCell (b:=t) rfl _ _).setCell (b:=t) rfl _ _
 have dD:((W4.setCell ⟨t,0,Za⟩ (.int .i64 k)).setCell ⟨t,1,Za⟩ (.iface 279 (.pointer (O J)))).cell? ⟨t,0,Za⟩=O (.int .i64 k):=by
  have:=cY (o:=1) (cY (o:=0) t4 (.int .i64 k)) (.iface 279 (.pointer (O J)));simp[Zo,this]
 have HC:XX _:=hC;have HR:XX _:=dD;clear hC dD b1 b2 b3 t1 t2 t3 t4 v4 ht hg s3;subst Hn;subst Et;subst jA;subst mF;go_enter func20,ntmps20;go_wp2;refine Zz 1 ?_;rw[Zt];go_wp2;go_ret;exact⟨rfl,HR.o,HC.o⟩
theorem aa3(J:Zh)(t:Zb)(w:Zc)(hg:rZ w):
 Zk prog 20 #[.iface 279 (.pointer (O J)),.iface 47 (.pointer (O ⟨t,0,Za⟩))] w λev w'=>ev=.returned (.bool Zj)/\Zm w.heap.size w w':=by
 have h6:=@run_callFunc_extern prog 38 _ (λargs=>ReflectliteValue.unpack (args.getD 0 (.tuple #[]))) func38 (by kernel_rfl) (by kernel_rfl) (by kernel_rfl) (by kernel_rfl);have h7 := @run_callFunc_extern prog 39 _ (ReflectliteValue.methodAny (ReflectliteValue.valueError "reflectlite.Value.Type" 0) (λt _ _ _ => ReflectliteType.toType t)) func39 (by kernel_rfl) (by kernel_rfl) (by kernel_rfl) (by kernel_rfl)
 have h8 := @run_callFunc_extern prog 40 _ (ReflectliteValue.method (ReflectliteValue.valueError "reflectlite.Value.IsNil" 0) ReflectliteValue.isNil) func40 (by kernel_rfl) (by kernel_rfl) (by kernel_rfl) (by kernel_rfl)
 have h27:=@run_callFunc_extern prog 277 _ (ReflectliteType.abiMethod λt=>do pure (.int .u8 (<- Rtype.kind t))) func277 (by kernel_rfl) (by kernel_rfl) (by kernel_rfl) (by kernel_rfl);have h37:=@run_callFunc_extern prog 297 _ (ReflectliteType.method ReflectliteType.elem) func297 (by kernel_rfl) (by kernel_rfl) (by kernel_rfl) (by kernel_rfl);have h38 := @run_callFunc_extern prog 298 _ (ReflectliteType.relation "Implements" ReflectliteType.implements_) func298 (by kernel_rfl) (by kernel_rfl) (by kernel_rfl) (by kernel_rfl)
 have lp:=@run_callFunc_extern prog 42 _ ReflectliteType.typeOf func42 (by kernel_rfl) (by kernel_rfl) (by kernel_rfl) (by kernel_rfl);have Hc := @run_callFunc_extern prog 295 _ (ReflectliteType.relation "AssignableTo" ReflectliteType.assignableTo) func295 (by kernel_rfl) (by kernel_rfl) (by kernel_rfl) (by kernel_rfl)
 have tO:=FU;have mA:=VW;have a25:=akj;have f6:=V2;have f7:=V1;have mK:=VZ;have mE:=VX;have mI:=VY;have k27:=VU;have k25:=VS;have e27:=VP;have i25:=VQ;have nA:=akg;have uE:=Og;have vE:=Oh;have BL:6<w.heap.size:=GO hg;obtain⟨W1,mF⟩:∃W1,W1=w.alloc (.cells #[.pointer (O ⟨t,0,Za⟩)] 47):=⟨_,rfl⟩
 obtain⟨W2,jA⟩:∃W2,W2=W1.alloc (.cells #[.pointer (O ⟨15,47,Za⟩),.pointer (O ⟨w.heap.size,0,Za⟩),.int .u64 150] 84):=⟨_,rfl⟩
 have b1:W1.heap[w.heap.size]?=O (.cells #[.pointer (O ⟨t,0,Za⟩)] 47 (0,0)):=by rw[mF];exact aE rfl
 have b2:W2.heap[w.heap.size]?=O (.cells #[.pointer (O ⟨t,0,Za⟩)] 47 (0,0)):=by rw[jA];exact cj b1
 have n8:=VR ⟨w.heap.size,0,Za⟩ ⟨t,0,Za⟩ W2 (by simp[Zo,b2]);have qI:W2.cell? ⟨6,0,Za⟩=O (.iface 145 (.agg #[.pointer (O ⟨15,29,Za⟩)])):=by
  rw[jA,ZG _ _ ⟨6,0,Za⟩ (by rw[mF];simp;omega),mF,ZG _ _ ⟨6,0,Za⟩ BL];exact hg
 clear b1 b2 hg;subst jA;subst mF;go_enter func20,ntmps20;go_wp2;refine Zz 1 ?_;rw[Zt];go_wp2;go_ret;exact⟨rfl,(((ZA _ w).alloc (ZB _) _).alloc (by simp) _).alloc (by simp;omega) _⟩
end
section
open Go.RowKit
theorem rZ.below(h:rZ w)(hb:Zm w.heap.size w w'):rZ w':=by
 unfold rZ at *;rw[<-h];simp only[Zo,hb.block _ (GO h)]
theorem Nk(k:Zb)(J:Zh)(w:Zc)(hg:rZ w):
 Zk prog 10 #[aG J k] w λe w'=>e=.returned (.int .i64 k)/\Zm w.heap.size w w':=by
 have hB:Zm w.heap.size w (w.alloc (.cells #[.int .i64 0,.nilIface] 45)):=(ZA _ w).alloc (ZB _) _;have HQ:XX (Zk prog 20 #[aG J k,.iface 47 (.pointer (O ⟨w.heap.size,0,Za⟩))] (w.alloc (.cells #[.int .i64 0,.nilIface] 45)) λev w'=>ev=.returned (.bool Zf)/\w'.cell? ⟨w.heap.size,0,Za⟩=O (.int .i64 k)/\cI (λi=>i=w.heap.size) (w.alloc (.cells #[.int .i64 0,.nilIface] 45)) w'):=
  aa2 k J w.heap.size _ (hg.below hB) (aE rfl)
 have HB:XX (Zm w.heap.size w (w.alloc (.cells #[.int .i64 0,.nilIface] 45))):=hB;obtain⟨E,hE⟩:∃E,E=aG J k:=⟨_,rfl⟩
 rw[<-hE]at HQ⊢;clear hg hE hB;go_enter func10,ntmps10;go_wp2_with fail;refine ZM HQ.o ?_;rintro e w1 ⟨rfl,hc,oF⟩;go_wp2_with fail;go_ret;refine⟨rfl,HB.o.trans ⟨oF.os,oF.tape,oF.output,oF.size,λi hi=>oF.block i (by simp;omega) (by omega)⟩⟩
theorem T2(J:Zh)(w:Zc)(hg:rZ w):
 Zk prog 10 #[.iface 279 (.pointer (O J))] w λe w'=>e=.returned (.int .i64 0)/\Zm w.heap.size w w':=by
 have hB:Zm w.heap.size w (w.alloc (.cells #[.int .i64 0,.nilIface] 45)):=(ZA _ w).alloc (ZB _) _;have HQ:XX (Zk prog 20 #[.iface 279 (.pointer (O J)),.iface 47 (.pointer (O ⟨w.heap.size,0,Za⟩))] (w.alloc (.cells #[.int .i64 0,.nilIface] 45)) λev w'=>ev=.returned (.bool Zj)/\Zm (w.alloc (.cells #[.int .i64 0,.nilIface] 45)).heap.size (w.alloc (.cells #[.int .i64 0,.nilIface] 45)) w'):=
  aa3 J w.heap.size _ (hg.below hB)
 have HB:XX (Zm w.heap.size w (w.alloc (.cells #[.int .i64 0,.nilIface] 45))):=hB;clear hg hB;go_enter func10,ntmps10;go_wp2_with fail;refine ZM HQ.o ?_;rintro e w1 ⟨rfl,hb⟩;go_wp2_with fail;go_ret;exact⟨rfl,HB.o.trans (hb.mono (by simp))⟩
structure mw(w:Zc)(L S N A J La:Zh):Prop where
 cL:w.cell? ⟨0,0,Za⟩=O (.iface 279 (.pointer (O L)))
 cS:w.cell? ⟨2,0,Za⟩=O (.iface 279 (.pointer (O S)))
 cN:w.cell? ⟨3,0,Za⟩=O (.iface 279 (.pointer (O N)))
 cA:w.cell? ⟨4,0,Za⟩=O (.iface 279 (.pointer (O A)))
 cJ:w.cell? ⟨5,0,Za⟩=O (.iface 279 (.pointer (O J)))
 cLa:w.cell? ⟨1,0,Za⟩=O (.iface 279 (.pointer (O La)))
 bL:∃c t,w.heap[L.block]?=O (.cells c t (0,0))
 bS:∃c t,w.heap[S.block]?=O (.cells c t (0,0))
 bN:∃c t,w.heap[N.block]?=O (.cells c t (0,0))
 bA:∃c t,w.heap[A.block]?=O (.cells c t (0,0))
 bJ:∃c t,w.heap[J.block]?=O (.cells c t (0,0))
 bLa:∃c t,w.heap[La.block]?=O (.cells c t (0,0))
 ne:L≠S/\L≠N/\L≠A/\L≠J/\L≠La/\S≠N/\S≠A/\S≠J/\S≠La/\N≠A/\N≠J/\N≠La/\A≠J/\A≠La/\J≠La
theorem Bk(h:w.cell? ⟨g,0,Za⟩=O v)(hb:Zm w.heap.size w w'):w'.cell? ⟨g,0,Za⟩=O v:=by
 rw[<-h];simp only[Zo,hb.block _ (GO h)]
theorem Be(h:∃c t,w.heap[g]?=O (.cells c t (0,0)))(hb:Zm w.heap.size w w'):∃c t,w'.heap[g]?=O (.cells c t (0,0)):=by
 obtain⟨c,t,h⟩:=h;exact⟨c,t,(hb.block g (al h)).trans h⟩
theorem mw.below(h:mw w L S N A J La)(hb:Zm w.heap.size w w'):mw w' L S N A J La:=
 ⟨Bk h.cL hb,Bk h.cS hb,Bk h.cN hb,Bk h.cA hb,Bk h.cJ hb,Bk h.cLa hb,Be h.bL hb,Be h.bS hb,Be h.bN hb,Be h.bA hb,Be h.bJ hb,Be h.bLa hb,h.ne⟩
theorem Iu(k:Zb)(a b:Zh)(w:Zc)(bj:a≠b)(ha:∃c t,w.heap[a.block]?=O (.cells c t (0,0)))(hb:∃c t,w.heap[b.block]?=O (.cells c t (0,0))):
 Zk prog 21 #[aG a k,.iface 279 (.pointer (O b))] w λe w'=>e=.returned (.bool Zj)/\Zm w.heap.size w w':=by
 obtain⟨ca,ta,ha⟩:=ha;obtain⟨cb,tb,hb⟩:=hb;refine(afP k a b ca cb ta tb w bj ha hb).mono ?_;rintro e w' ⟨rfl,rfl⟩;exact⟨rfl,(ZA _ w).alloc (ZB _) _⟩
theorem ME(k:Zb)(b:Zh)(w:Zc):
 Zk prog 21 #[aG b k,.iface 279 (.pointer (O b))] w λe w'=>e=.returned (.bool Zf)/\Zm w.heap.size w w':=by
 refine(afQ k b w).mono ?_;rintro e w' ⟨rfl,rfl⟩;exact⟨rfl,(ZA _ w).alloc (ZB _) _⟩
theorem Cm(a b:Zh)(w:Zc)(bj:a≠b)(ha:∃c t,w.heap[a.block]?=O (.cells c t (0,0)))(hb:∃c t,w.heap[b.block]?=O (.cells c t (0,0))):
 Zk prog 21 #[.iface 279 (.pointer (O a)),.iface 279 (.pointer (O b))] w λe w'=>e=.returned (.bool Zj)/\w'=w:=by
 obtain⟨ca,ta,ha⟩:=ha;obtain⟨cb,tb,hb⟩:=hb;exact afS a b ca cb ta tb w bj ha hb
theorem acm(w:Zc)(h:mw w L S N A J La):
 Zk prog 11 #[.iface 279 (.pointer (O L))] w λe w'=>e=.returned (.int .i64 1)/\w'=w:=by
 have c0:=h.cL;clear h;go_enter func11,ntmps11;go_wp2_with fail;refine(MF L w).mono ?_;rintro e w1 ⟨rfl,rfl⟩;go_wp2_with fail;go_ret;exact⟨rfl,rfl⟩
theorem acl(w:Zc)(h:mw w L S N A J La):
 Zk prog 11 #[.iface 279 (.pointer (O La))] w λe w'=>e=.returned (.int .i64 6)/\w'=w:=by
 have HS:XX (mw w L S N A J La):=h;have c0:=h.cL;have c1:=h.cS;have c2:=h.cN;have c3:=h.cA;have c4:=h.cJ;have c5:=h.cLa;have j9:XX (La≠L/\La≠S/\La≠N/\La≠A/\La≠J):=by
  obtain⟨h1,h2,h3,h4,h5,h6,h7,h8,h9,lp,pS,fD,mB,vn,sF⟩:=h.ne;exact⟨λe=>h5 e.symm,λe=>h9 e.symm,λe=>fD e.symm,λe=>vn e.symm,λe=>sF e.symm⟩
 clear h;go_enter func11,ntmps11;go_wp2_with fail;refine(Cm La L w j9.o.1 HS.o.bLa HS.o.bL).mono ?_;rintro e w1 ⟨rfl,rfl⟩;go_wp2_with fail;refine(Cm La S w1 j9.o.2.1 HS.o.bLa HS.o.bS).mono ?_;rintro e w2 ⟨rfl,rfl⟩;go_wp2_with fail;refine(Cm La N w2 j9.o.2.2.1 HS.o.bLa HS.o.bN).mono ?_;rintro e w3 ⟨rfl,rfl⟩;go_wp2_with fail;refine(Cm La A w3 j9.o.2.2.2.1 HS.o.bLa HS.o.bA).mono ?_;rintro e w4 ⟨rfl,rfl⟩;go_wp2_with fail;refine(Cm La J w4 j9.o.2.2.2.2 HS.o.bLa HS.o.bJ).mono ?_;rintro e w5 ⟨rfl,rfl⟩;go_wp2_with fail;refine(MF La w5).mono ?_;rintro e w6 ⟨rfl,rfl⟩;go_wp2_with fail;go_ret;exact⟨rfl,rfl⟩
end
end Go.Proofs.YtdlgkgfeoiohiaaGreatDoor
