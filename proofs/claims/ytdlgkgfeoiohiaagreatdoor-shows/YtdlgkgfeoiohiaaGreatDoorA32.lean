/- Part 32. -/
import Derived.Test.YtdlgkgfeoiohiaaGreatDoorA31
open Bool renaming false -> Zn,true -> Zo,false_eq_true -> Zz,or_assoc -> ZA
open Go renaming Value -> Zb,World -> Zf,Addr -> Zj,callFunc -> Zq,Calls -> Zr
open Go.Calls renaming mono -> Zh
open Go.Proofs renaming enters_of -> Zx
open Go.RowKit renaming Below -> Zk
open Go.RowKit.Below renaming refl -> Zm,heap_setCell -> ZE
open Go.World renaming setCell -> ZH
open Go.World.ownsRow renaming lt -> ZJ
open List renaming append_assoc -> ZB,cons_append -> ZC
open Nat renaming le_refl -> Zl,le_trans -> Zp,lt_of_lt_of_le -> ZG
open Option renaming some -> Zc,none -> Ze
open _root_ renaming Nat -> O,List -> Za,ByteArray -> Zd,Int -> Zg,Bool -> Zi,Option -> Zt,if_neg -> Zu,if_pos -> Zv,Except -> Zw,if_true -> Zy,decide_eq_false -> ZD,beq_eq_false_iff_ne -> ZI
namespace Go.Proofs.YtdlgkgfeoiohiaaGreatDoor
set_option linter.unusedVariables false
set_option maxHeartbeats 16000000
set_option maxRecDepth 100000
open Go.RowKit J Go.Proofs.Tryz
variable {A B:O->Prop}{w w':Zf}{x er:Zb}{N i' n fn k m:O}{lg lg':Zi}{cs cs' xs new:Za Zb}{R:PR}{ks:Za Zd}{S:Zj}{r:Nd×O}
mutual
def gC:Nd->Za Nd
 |.mk op a s names l n0 n1 n2 i0 i1 i2 v=>(if op=eX then[.mk op a s names l n0 n1 n2 i0 i1 i2 v]else[])++jc l
def jc:Za Nd->Za Nd
 |[]=>[]
 |x::l=>gC x++jc l
end
def oy(w:Zf)(v:Zb)(ks:Za Zd)(xs:Za Zb):Prop:=ks.length=xs.length/\w.ownsRow 0 305 2 v xs.length (mv ks xs)
theorem oy.same{v:Zb}(h:oy w v ks xs)(hs:∀k,v.ownBlock=Zc k->w'.heap[k]?=w.heap[k]?):oy w' v ks xs:=by
 refine⟨h.1,h.2.1,?_⟩;rcases h.2.2 with h2|⟨g,cap,cur,rfl,h0,hg,r⟩
 .exact .inl h2
 .exact .inr ⟨g,cap,cur,rfl,h0,by rw[hs g rfl];exact hg,r⟩
theorem oy.lt{v:Zb}(h:oy w v ks xs)(hk:v.ownBlock=Zc k):k<w.heap.size:=(ZJ h.2 k hk).2
def OP(w:Zf)(A:O->Prop)(v:Zt (VT 12))(y:Zb):Prop:=match v with
 |none=>y=.nilIface
 |some x=>fV 12 x/\(aF 12 x).length<=600000/\db 12 w A x y
theorem OP.keep{v:Zt (VT 12)}{y:Zb}(h:OP w A v y)(hk:∀i,A i->i<w.heap.size->w'.heap[i]?=w.heap[i]?/\B i):OP w' B v y:=by
 cases v with
 |none=>exact h
 |some x=>exact⟨h.1,h.2.1,db.keep 12 h.2.2 hk⟩
def pr:Za Zd:=[CI,Ai,xR]++ii
def yM(w:Zf)(A:O->Prop)(sl:Zb)(ps:Za Zb):Prop:=ao w 36 sl ps/\∀g,sl.ownBlock=Zc g->A g
theorem yM.keep{sl:Zb}{ps:Za Zb}(h:yM w A sl ps)(hk:∀i,A i->i<w.heap.size->w'.heap[i]?=w.heap[i]?/\B i):yM w' B sl ps:=
 ⟨h.1.same (λg hg=>(hk g (h.2 g hg) (h.1.lt hg)).1),λg hg=>(hk g (h.2 g hg) (h.1.lt hg)).2⟩
inductive iL (w:Zf) (A:O->Prop):Zd->O->Zd->Za Zd->Zg->Zg->Zg->Zi->Zi->Zi->Zt (VT 12)->Za Zb->Zb->Prop where
 |name {a s names n0 n1 n2 i0 i1 i2 v}:iL w A oP a s names n0 n1 n2 i0 i1 i2 v [] (.iface 289 (.string s))
 |cur {a s names n0 n1 n2 i0 i1 i2 v}:iL w A lA a s names n0 n1 n2 i0 i1 i2 v [] (.iface 287 (.agg #[]))
 |vals {a s names n0 n1 n2 i0 i1 i2 v}:iL w A eV a s names n0 n1 n2 i0 i1 i2 v [] (.iface 290 (.agg #[]))
 |raw {a s names n0 n1 n2 i0 i1 i2 v}:iL w A rX a s names n0 n1 n2 i0 i1 i2 v [] (.iface 284 (.string s))
 |lit {a s names n0 n1 n2 i0 i1 i2 v y} (hy:eI y) (ho:OP w A v y):iL w A kr a s names n0 n1 n2 i0 i1 i2 v [] (.iface 286 (.agg #[y]))
 |call {a:O} {s names n0 n1 n2 i0 i1 i2 v ps c sl} (hA:A c) (hb:w.heap[c]?=Zc (.cells #[.string s,.int .i64 a,sl] 119 (0,0))) (hr:yM w A sl ps):iL w A eX a s names n0 n1 n2 i0 i1 i2 v ps (.iface 65 (.pointer (Zc ⟨c,0,Ze⟩)))
 |list {a s names n0 n1 n2 i0 i1 i2 v ps sl} (hr:yM w A sl ps):iL w A m8 a s names n0 n1 n2 i0 i1 i2 v ps (.iface 291 sl)
 |obj {a s names n0 n1 n2 i0 i1 i2 v ps sl} (hr:oy w sl names ps) (hA:∀g,sl.ownBlock=Zc g->A g):iL w A fi a s names n0 n1 n2 i0 i1 i2 v ps (.iface 303 sl)
 |flat {a s names n0 n1 n2 i0 i1 i2 v}:iL w A qj a s names n0 n1 n2 i0 i1 i2 v [] (.iface 299 (.agg #[]))
 |things {a s names n0 n1 n2 i0 i1 i2 v}:iL w A pA a s names n0 n1 n2 i0 i1 i2 v [] (.iface 298 (.agg #[]))
 |filter {a s names n0 n1 n2 i0 i1 i2 v p}:iL w A om a s names n0 n1 n2 i0 i1 i2 v [p] (.iface 301 (.agg #[p]))
 |index {a s names n0 n1 n2 i0 i1 i2 v}:iL w A oO a s names n0 n1 n2 i0 i1 i2 v [] (.iface 293 (.int .i64 n0))
 |slice {a s names n0 n1 n2 i0 i1 v}:iL w A j7 a s names n0 n1 n2 i0 i1 Zo v [] (.iface 297 (.agg #[.bool i0,.int .i64 n0,.bool i1,.int .i64 n1,.int .i64 n2]))
 |chain {a s names n0 n1 n2 i0 i1 i2 v p ps sl} (hr:yM w A sl ps):iL w A fa a s names n0 n1 n2 i0 i1 i2 v (p::ps) (.iface 277 (.agg #[p,sl]))
 |not {a s names n0 n1 n2 i0 i1 i2 v p}:iL w A jk a s names n0 n1 n2 i0 i1 i2 v [p] (.iface 244 (.agg #[p]))
 |expr {a s names n0 n1 n2 i0 i1 i2 v p}:iL w A eF a s names n0 n1 n2 i0 i1 i2 v [p] (.iface 179 (.agg #[p]))
 |pair {op a s names n0 n1 n2 i0 i1 i2 v p q} (ho:op∈pr):iL w A op a s names n0 n1 n2 i0 i1 i2 v [p,q] (.iface 173 (.agg #[.string op,p,q]))
theorem iL.keep{op:Zd}{a:O}{s:Zd}{names:Za Zd}{n0 n1 n2:Zg}{i0 i1 i2:Zi}{v:Zt (VT 12)}{ps:Za Zb}(h:iL w A op a s names n0 n1 n2 i0 i1 i2 v ps x)(hk:∀i,A i->i<w.heap.size->w'.heap[i]?=w.heap[i]?/\B i):iL w' B op a s names n0 n1 n2 i0 i1 i2 v ps x:=by
 cases h with
 |name=>exact .name
 |cur=>exact .cur
 |vals=>exact .vals
 |raw=>exact .raw
 |lit hy ho=>exact .lit hy (ho.keep hk)
 |call hA hb hr=>exact .call (hk _ hA (al hb)).2 ((hk _ hA (al hb)).1.trans hb) (hr.keep hk)
 |list hr=>exact .list (hr.keep hk)
 |obj hr hA=>exact .obj (hr.same (λg hg=>(hk g (hA g hg) (hr.lt hg)).1)) (λg hg=>(hk g (hA g hg) (hr.lt hg)).2)
 |flat=>exact .flat
 |things=>exact .things
 |filter=>exact .filter
 |index=>exact .index
 |slice=>exact .slice
 |chain hr=>exact .chain (hr.keep hk)
 |not=>exact .not
 |expr=>exact .expr
 |pair ho=>exact .pair ho
theorem iL.isif{op:Zd}{a:O}{s:Zd}{names:Za Zd}{n0 n1 n2:Zg}{i0 i1 i2:Zi}{v:Zt (VT 12)}{ps:Za Zb}(h:iL w A op a s names n0 n1 n2 i0 i1 i2 v ps x):∃t y,x=.iface t y:=by cases h <;> exact⟨_,_,rfl⟩
mutual
def NP(w:Zf)(A:O->Prop):Nd->Zb->Prop
 |.mk op a s names l n0 n1 n2 i0 i1 i2 v,x=>∃ps,bY w A l ps/\iL w A op a s names n0 n1 n2 i0 i1 i2 v ps x
def bY(w:Zf)(A:O->Prop):Za Nd->Za Zb->Prop
 |[],ps=>ps=[]
 |y::l,ps=>∃p ps',ps=p::ps'/\NP w A y p/\bY w A l ps'
end
mutual
theorem NP.keep{w w':Zf}{A B:O->Prop}(hk:∀i,A i->i<w.heap.size->w'.heap[i]?=w.heap[i]?/\B i):∀(y:Nd) (x:Zb),NP w A y x->NP w' B y x
 |.mk op a s names l n0 n1 n2 i0 i1 i2 v,x,h=>by
  unfold NP at h⊢;obtain⟨ps,h1,h2⟩:=h;exact⟨ps,bY.keep hk l ps h1,h2.keep hk⟩
theorem bY.keep{w w':Zf}{A B:O->Prop}(hk:∀i,A i->i<w.heap.size->w'.heap[i]?=w.heap[i]?/\B i):∀(l:Za Nd) (ps:Za Zb),bY w A l ps->bY w' B l ps
 |[],ps,h=>by unfold bY at h⊢;exact h
 |y::l,ps,h=>by
  unfold bY at h⊢;obtain⟨p,ps',e,h1,h2⟩:=h;exact⟨p,ps',e,NP.keep hk y p h1,bY.keep hk l ps' h2⟩
end
theorem NP.isif{y:Nd}(h:NP w A y x):∃t z,x=.iface t z:=by
 cases y
 unfold NP at h;obtain⟨ps,_,h2⟩:=h;exact h2.isif
theorem bY.nil(w:Zf)(A:O->Prop):bY w A [] []:=by unfold bY;rfl
theorem bY.one{y:Nd}{p:Zb}(h:NP w A y p):bY w A [y] [p]:=by unfold bY;exact⟨p,[],rfl,h,bY.nil w A⟩
theorem bY.two{y z:Nd}{p q:Zb}(h:NP w A y p)(h2:NP w A z q):bY w A [y,z] [p,q]:=by unfold bY;exact⟨p,[q],rfl,h,bY.one h2⟩
theorem bY.snoc{y:Nd}{p:Zb}(hy:NP w A y p):∀{l:Za Nd} {ps:Za Zb},bY w A l ps->bY w A (l++[y]) (ps++[p])
 |[],ps,h=>by unfold bY at h;subst h;exact bY.one hy
 |z::l,ps,h=>by
  unfold bY at h;obtain⟨q,ps',e,h1,h2⟩:=h;subst e;rw[ZC,ZC];unfold bY;exact⟨q,ps'++[p],rfl,h1,bY.snoc hy h2⟩
theorem NP.mk0{op:Zd}{a:O}{s:Zd}{names:Za Zd}{n0 n1 n2:Zg}{i0 i1 i2:Zi}{v:Zt (VT 12)}(h:iL w A op a s names n0 n1 n2 i0 i1 i2 v [] x):NP w A (.mk op a s names [] n0 n1 n2 i0 i1 i2 v) x:=by unfold NP;exact⟨[],bY.nil w A,h⟩
theorem NP.mkL{op:Zd}{l:Za Nd}{ps:Za Zb}(hl:bY w A l ps)(h:iL w A op 0 ⟨#[]⟩ [] 0 0 0 Zn Zn Zn Ze ps x):NP w A (dn op l) x:=by unfold dn NP;exact⟨ps,hl,h⟩
theorem D7:∀(l:Za Nd) (x:Nd),jc (l++[x])=jc l++gC x
 |[],x=>by rw[Za.nil_append,jc,jc,jc];simp
 |y::l,x=>by rw[ZC,jc,jc,D7 l x];simp
theorem D8{op:Zd}(h:op≠eX)(l:Za Nd):gC (dn op l)=jc l:=by rw[dn,gC,Zu h];rfl
theorem PQ(x:Nd):jc [x]=gC x:=by rw[jc,jc];simp
theorem PT(x y:Nd):jc [x,y]=gC x++gC y:=by rw[jc,PQ]
theorem DW{op:Zd}(h:op≠kr)(l:Za Nd):eN (dn op l)=gz l:=by rw[dn,eN,ZD h];simp
theorem Px(x:Nd):gz [x]=eN x:=by rw[gz,gz];simp
theorem Py(x y:Nd):gz [x,y]=(eN x || eN y):=by rw[gz,Px]
theorem Kp(l:Za Nd)(x:Nd):gz (l++[x])=(gz l || eN x):=by rw[yP,yP];simp
def CP(w:Zf)(A:O->Prop)(y:Nd)(p:Zb):Prop:=∃c,p=.pointer (Zc c)/\NP w A y (.iface 65 (.pointer (Zc c)))
def ZR(R:PR)(w':Zf)(A:O->Prop)(S:Zj)(x er:Zb)(i':O)(lg lg':Zi)(cs cs':Za Zb):Prop:=match R with
 |.error p=>er=aG S p
 | .ok r=>er=.nilIface/\i'=r.2/\lg'=(lg || eN r.1)/\NP w' A r.1 x/\∃new,cs'=cs++new/\bO (CP w' A) (gC r.1) new
def cK(T:Za (aj×O))(N b:O)(V:O->Prop)(g tc:O)(S:Zj)(d:Zg)(lg:Zi)(cv:Zb)(cs:Za Zb)(Rv:PR)(fn:O)(args:Array Zb)(w:Zf):Prop:=
 Zr prog fn args w λe w'=>∃x er i' lg' cv' cs',e=.returned (.tuple #[x,er])/\eI x/\eI er/\ZF N b cv cv' w w'/\ZS w' b V T g tc S i' d lg' cv' cs'/\i'<T.length/\XX (ZR Rv w' (λm=>(V m\/N<=m)/\cv'.ownBlock≠Zc m) S x er i' lg lg' cs cs')
def dW(T:Za (aj×O))(R:O->PR)(n:O)(fn:O):Prop:=∀(w:Zf) (b:O) (V:O->Prop) (g tc:O) (S:Zj) (i:O) (lg:Zi) (cv:Zb) (cs:Za Zb) (d:Zg),d+(n:Zg)=12->0<=d->ZS w b V T g tc S i d lg cv cs->i<T.length ->
 cK T w.heap.size b V g tc S d lg cv cs (R i) fn #[.pointer (Zc ⟨b,0,Ze⟩)] w
def Bm(T:Za (aj×O))(n:O)(Rin:O->PR)(i:O):PR:=match n with
 |0=>.error (bE T i)
 |_+1=>Rin (i+1)
def Wg(b fn:O)(args:Array Zb)(fv:Zb):Prop:=(fv=.func (.func fn) #[.pointer (Zc ⟨b,0,Ze⟩)] #[]/\args=#[.pointer (Zc ⟨b,0,Ze⟩)])\/fv=.func (.func fn) #[] args
theorem ZR.err{p:O}(h:er=aG S p):ZR (.error p) w' A S x er i' lg lg' cs cs':=h
theorem nr(S:Zj)(p:O):eI (aG S p):=.inr ⟨_,_,rfl⟩
section
variable {w w':Zf} {b:O} {V:O->Prop} {T:Za (aj×O)} {g tc:O} {S:Zj} {i:O} {d:Zg} {lg:Zi} {cv:Zb} {cs:Za Zb}
theorem CP.keep{y:Nd}{p:Zb}(h:CP w A y p)(hk:∀i,A i->i<w.heap.size->w'.heap[i]?=w.heap[i]?/\B i):CP w' B y p:=by
 obtain⟨c,e,h⟩:=h;exact⟨c,e,NP.keep hk _ _ h⟩
theorem ZR.keep(h:ZR R w A S x er i' lg lg' cs cs')(hk:∀i,A i->i<w.heap.size->w'.heap[i]?=w.heap[i]?/\B i):ZR R w' B S x er i' lg lg' cs cs':=by
 cases R with
 |error p=>exact h
 |ok r=>
  obtain⟨h1,h2,h3,h4,new,h5,h6⟩:=h;exact⟨h1,h2,h3,NP.keep hk _ _ h4,new,h5,h6.mono (λa c hac=>hac.keep hk)⟩
theorem ZR.setb(hV:∀m,V m->m<b)(hb:b<N)(j:O)(u:Zb)(h:ZR R w (λm=>(V m\/N<=m)/\cv.ownBlock≠Zc m) S x er i' lg lg' cs cs'):ZR R (w.setCell ⟨b,j,Ze⟩ u) (λm=>(V m\/N<=m)/\cv.ownBlock≠Zc m) S x er i' lg lg' cs cs':=
 h.keep (λm hm _=>⟨ZE _ _ _ _ (by
  have:m≠b:=by rcases hm.1 with h1|h1;have:=hV m h1;omega;omega
  simpa using this),hm⟩)
theorem Oj{Rin:O->PR}{args:Array Zb}{fv:Zb}{cs0:Za Zb}(hfv:Wg b fn args fv)(eg:∀args W,(Zq fn args).run prog W=.ok (.enter fn args) W)(hd:d+(n:Zg)=12)(cy:0<=d)(h:ZS w b V T g tc S i d lg cv cs)(hi:i+1<T.length)(hN:N<=w.heap.size)(bT:b<N)
 (zJ:∀n',n=n'+1->∀W,ab b w W->ZS W b V T g tc S (i+1) (d+1) lg cv cs->cK T N b V g tc S (d+1) lg cv cs0 (Rin (i+1)) fn args W):
 cK T N b V g tc S d lg cv cs0 (Bm T n Rin i) 186 #[.pointer (Zc ⟨b,0,Ze⟩),fv] w:=by
 have HS:=aa h;have iE:=h.tl;unfold cK;obtain⟨z0,z1,z2,z3,z4,zf⟩:=jF h.blk;cases n with
 |zero=>
  have BH:d=12:=by omega
  subst BH;have HW:=aa (uL h (by omega));clear h zJ z0 z1 z3 z4 hd;rcases hfv with⟨rfl,_⟩|rfl
  all_goals
   go_enter func186,ntmps186;go_wp2_with fail;refine Zh HW.o ?_;rintro e w2 ⟨rfl,ah⟩;rw[aG];go_wp2_with fail;go_ret2;exact⟨.nilIface,_,i,lg,cv,cs,rfl,.inl rfl,nr S (bE T i),ZF.of_below ah hN,HS.o.below ah,by omega,rfl⟩
 |succ n'=>
  have BH:(d==12)=Zn:=ZI.2 (by omega);have hd3:d<12:=by omega
  have tM:=aa (zJ n' rfl);unfold cK at tM;clear zJ;have bB:XX (ab b w ((w.setCell ⟨b,1,Ze⟩ (.int .i64 ((i:Zg)+1))).setCell ⟨b,2,Ze⟩ (.int .i64 (d+1)))):=((ab.refl b w).setCell _ _).setCell _ _;have fL:XX (ZS ((w.setCell ⟨b,1,Ze⟩ (.int .i64 ((i:Zg)+1))).setCell ⟨b,2,Ze⟩ (.int .i64 (d+1))) b V T g tc S (i+1) (d+1) lg cv cs):=(h.at (by simp)).deep (d+1);have HC:=aa (tM.o _ bB.o fL.o);clear h;rcases hfv with⟨rfl,rfl⟩|rfl
  all_goals
   go_enter func186,ntmps186;go_wp2_with fail;refine Zh HC.o ?_;rintro e w2 ⟨x,er,i2,lg2,cv2,cs2,rfl,hx,bR,hf,hs,dL,hr⟩;have fj:=aa hs;have cF:=aa hf;obtain⟨y0,y1,y2,y3,y4,yf⟩:=jF hs.blk;clear hs hf y0 y1 y3 y4;go_wp2_with fail;go_ret2;exact⟨x,er,i2,lg2,cv2,cs2,rfl,hx,bR,((ZF.of_but bB.o hN).trans cF.o).setb _ _,fj.o.deep d,dL,hr.o.setb fj.o.vb bT _ _⟩
end
section
variable {w w':Zf} {b:O} {V:O->Prop} {T:Za (aj×O)} {g tc:O} {S:Zj} {i:O} {d:Zg} {lg:Zi} {cv cv':Zb} {cs:Za Zb}
theorem ZF.keepA(h:ZF w.heap.size b cv cv' w w')(hV:∀m,V m->m<b)(hb:b<N):∀m,((V m\/N<=m)/\cv.ownBlock≠Zc m)->m<w.heap.size->w'.heap[m]?=w.heap[m]?/\((V m\/N<=m)/\cv'.ownBlock≠Zc m):=by
 intro m hm ai;have bj:m≠b:=by rcases hm.1 with h1|h1;have:=hV m h1;omega;omega
 exact⟨h.block m ai bj hm.2,hm.1,λe=>by rcases h.own m e with e|e;exact hm.2 e;omega⟩
theorem bO.append{α β:Type}{R:α->β->Prop}:∀{us:Za α} {vs:Za β} {us2:Za α} {vs2:Za β},bO R us vs->bO R us2 vs2->bO R (us++us2) (vs++vs2)
 |[],[],_,_,_,h=>h
 |a::us,c::vs,_,_,h,h2=>⟨h.1,bO.append h.2 h2⟩
 |[],c::vs,_,_,h,_=>h.elim
 |a::us,[],_,_,h,_=>h.elim
theorem ZF.size'(h:ZF N b cv cv' w w')(hN:N=w.heap.size):N<=w'.heap.size:=by rw[hN];exact h.size
def Kl(T:Za (aj×O))(part:O->PR)(s:Zd)(Rt:PR)(wr:Zf)(A:O->Prop)(S:Zj)(x er:Zb)(i':O)(lg lg':Zi)(cs cs':Za Zb)(gh:O):Prop:=
 (∃p,er=aG S p/\Rt=.error p/\1<=gh) \/
 (er=.nilIface/\∃y f,Rt=ly T part s f y i'/\T.length<=f+i'/\T.length<gh+i'/\lg'=(lg || eN y)/\NP wr A y x/\∃new,cs'=cs++new/\bO (CP wr A) (gC y) new)
theorem Ok{part:O->PR}(hp:dW T part n fn)(eg:∀args W,(Zq fn args).run prog W=.ok (.enter fn args) W)(hm:jx part){s:Zd}(hs:s∈pr)(hd:d+(n:Zg)=12)(cy:0<=d)(h:ZS w b V T g tc S i d lg cv cs)(hi:i<T.length):
 cK T w.heap.size b V g tc S d lg cv cs (iF T s part i) 53 #[.pointer (Zc ⟨b,0,Ze⟩),.string s,.func (.func fn) #[.pointer (Zc ⟨b,0,Ze⟩)] #[]] w:=by
 obtain⟨N,hN⟩:∃N,N=w.heap.size:=⟨_,rfl⟩
 have bT:b<N:=by rw[hN];exact al h.blk
 have aV:=aa h.vb;have HP:=aa hp;have HM:=aa hm;obtain⟨Rt,eJ⟩:∃Rt,Rt=iF T s part i:=⟨_,rfl⟩
 have nO:=aa eJ;have iE:=h.tl;have Fb:s≠eX/\s≠kr:=by
  have:∀x∈pr,x≠eX/\x≠kr:=by decide
  exact this s hs
 have dN:=aa (hp w b V g tc S i lg cv cs d hd cy h hi);unfold cK at dN⊢;rw[<-eJ,<-hN];rw[<-hN]at dN;have HN:=aa hN;clear hp hm h eJ hN;go_enter func53,ntmps53;go_wp2_with fail;refine Zh dN.o ?_;rintro e w1 ⟨x,er,i1,lg1,cv1,cs1,rfl,hx,bR,bC,ay,aU,aW⟩;have Dx:XX (Kl T part s Rt w1 (λm=>(V m\/N<=m)/\cv1.ownBlock≠Zc m) S x er i1 lg lg1 cs cs1 (T.length+1)):=by
  have hr:=aW.o;unfold ZR at hr;rw[show Rt=iF T s part i from nO.o,iF];cases hq:part i with
  |error p=>rw[hq]at hr;exact .inl ⟨p,hr,rfl,by omega⟩
  |ok r=>
   rw[hq]at hr;obtain⟨h1,h2,h3,h4,h5⟩:=hr;exact .inr ⟨h1,r.1,T.length,by rw[h2],by omega,by omega,h3,h4,h5⟩
 go_wp2_with fail;go_loopg [8,9] (T.length+1) (λgh xv ev wr=>∃i' lg' cv' cs',ZF N b cv cv' w wr/\ZS wr b V T g tc S i' d lg' cv' cs'/\i'<T.length/\eI xv/\eI ev/\XX (Kl T part s Rt wr (λm=>(V m\/N<=m)/\cv'.ownBlock≠Zc m) S xv ev i' lg lg' cs cs' gh))
 case atStart=>exact⟨i1,lg1,cv1,cs1,bC,ay,aU,hx,bR,Dx.o⟩
 case round=>
  obtain⟨i2,lg2,cv2,cs2,l7,cB,dL,lP,he2,nz⟩:=hrel;clear bC ay aU hx bR Dx aW dN;rcases nz.o with⟨p,rfl,pV,hg⟩|⟨rfl,y,f,dU,rz,hg,oH,kP,new,gF,cG⟩
  .rw[aG];go_wp2_with fail;go_ret2;exact⟨_,aG S p,i2,lg2,cv2,cs2,rfl,lP,nr S p,l7,cB,dL,by rw[pV];exact rfl⟩
  .have aL:=aa (qk cB dL s);have cF:=aa l7;have eu:XX (ag T i2 s=Zo->i2+1<T.length):=λe=>cB.sgn_more dL e
   obtain⟨f',rfl⟩:∃f',f=f'+1:=⟨f-1,by omega⟩
   have tP:=aa dU;have ra:=aa (show _/\_/\∃new,cs2=cs++new/\bO (CP wr _) (gC y) new from⟨oH,kP,new,gF,cG⟩);obtain⟨B,hB⟩:∃B,B=ag T i2 s:=⟨_,rfl⟩
   rw[<-hB]at aL eu;have ic:=aa hB;clear l7 cB dU oH kP gF cG hB nz;go_wp2_with fail;refine Zh aL.o ?_;rintro e w2 ⟨rfl,pZ,bm⟩;have eh:XX (ZF wr.heap.size b cv2 cv2 wr w2):=ZF.of_but pZ (Zl _);cases B
   .simp only[Zz,if_false]at bm;have jb:=aa bm;have eY:XX (Rt=.ok (y,i2)):=by show _=_;rw[tP.o,ly,<-ic.o];rfl
    clear bm pZ;go_wp2_with fail;go_ret2;refine⟨_,.nilIface,i2,lg2,cv2,cs2,rfl,lP,.inl rfl,cF.o.trans (eh.o.mono (cF.o.size' HN.o)),jb.o,dL,?_⟩;show ZR _ _ _ _ _ _ _ _ _ _ _;rw[eY.o];obtain⟨h1,h2,new,h3,h4⟩:=ra.o;exact⟨rfl,rfl,h1,NP.keep (eh.o.keepA aV.o bT) _ _ h2,new,h3,h4.mono (λa c hac=>hac.keep (eh.o.keepA aV.o bT))⟩
   .simp only[Zy]at bm;have rD:=eu.o rfl;have jb:=aa bm;have sy:=aa (HP.o w2 b V g tc S (i2+1) lg2 cv2 cs2 d hd cy bm rD);unfold cK at sy;clear bm pZ;go_wp2_with fail;refine Zh sy.o ?_;rintro e w3 ⟨x3,er3,i3,lg3,cv3,cs3,rfl,tk,ad1,vF,rP,zu,vO⟩;have Hh:N<=w2.heap.size:=Zp (cF.o.size' HN.o) eh.o.size;have jR:XX (ZF N b cv cv3 w w3):=(cF.o.trans (eh.o.mono (cF.o.size' HN.o))).trans (vF.mono Hh);have lF:=aa rP;have aah:XX (Kl T part s Rt w3 (λm=>(V m\/N<=m)/\cv3.ownBlock≠Zc m) S (.iface 173 (.agg #[.string s,u8,x3])) er3 i3 lg lg3 cs cs3 (gk-1)):=by
     have hr:=vO.o;unfold ZR at hr;have eJ:=tP.o;rw[ly,<-ic.o,Zv rfl]at eJ;obtain⟨h1,h2,new,h3,h4⟩:=ra.o;cases hq:part (i2+1)with
     |error p=>rw[hq]at hr eJ;exact .inl ⟨p,hr,eJ,by omega⟩
     |ok r=>
      rw[hq]at hr eJ;obtain⟨q1,q2,q3,q4,new2,q5,q6⟩:=hr;have zD:=HM.o (i2+1) r.1 r.2 hq;have k1:=eh.o.keepA (V:=V) aV.o bT;have k2:=vF.keepA (V:=V) aV.o bT;have k3:∀m,((V m\/w2.heap.size<=m)/\cv3.ownBlock≠Zc m)->m<w3.heap.size->w3.heap[m]?=w3.heap[m]?/\((V m\/N<=m)/\cv3.ownBlock≠Zc m):=λm hm _=>⟨rfl,hm.1.imp_right (λx=>by omega),hm.2⟩
      refine .inr ⟨q1,dn s [y,r.1],f',by rw[q2];exact eJ,by omega,by omega,?_,?_,new++new2,?_,?_⟩
      .rw[q3,h1,DW Fb.2,Py,ZA]
      .exact NP.mkL (bY.two (NP.keep k2 _ _ (NP.keep k1 _ _ h2)) (NP.keep k3 _ _ q4)) (.pair hs)
      .rw[q5,h3,ZB]
      .rw[D8 Fb.1,PT];exact bO.append (h4.mono (λa c hac=>(hac.keep k1).keep k2)) (q6.mono (λa c hac=>hac.keep k3))
    obtain⟨t8,z8,h8⟩:=ra.o.2.1.isif;subst h8;clear vO vF rP ra sy aL tP;rcases tk with rfl|⟨t3,z3,rfl⟩
    all_goals
     go_wp2;go_roundg (gk-1)
     case measure=>omega
     case rel=>exact⟨i3,lg3,cv3,cs3,jR.o,lF.o,zu,.inr ⟨_,_,rfl⟩,ad1,aah.o⟩
end
theorem abY:∀args W,(Zq 54 args).run prog W=.ok (.enter 54 args) W:=Zx func54 (by kernel_rfl) rfl
theorem abT:∀args W,(Zq 91 args).run prog W=.ok (.enter 91 args) W:=Zx func91 (by kernel_rfl) rfl
theorem abV:∀args W,(Zq 139 args).run prog W=.ok (.enter 139 args) W:=Zx func139 (by kernel_rfl) rfl
section
variable {T:Za (aj×O)} {n:O} {part:O->PR}
theorem akP(hp:dW T part n 139)(hm:jx part):dW T (iF T xR part) n 91:=by
 intro w b V g tc S i lg cv cs d hd cy h hi;have HC:=aa (Ok hp abV hm (s:=⟨#[38,38]⟩) (by unfold pr;simp[CI,Ai,xR]) hd cy h hi);unfold cK at HC⊢;clear h;go_enter func91,ntmps91;go_wp2_with fail;refine Zh HC.o ?_;rintro e w1 ⟨x,er,i1,lg1,cv1,cs1,rfl,hr⟩;go_wp2_with fail;go_ret2;exact⟨x,er,i1,lg1,cv1,cs1,rfl,hr⟩
theorem ald(hp:dW T part n 91)(hm:jx part):dW T (iF T Ai part) n 54:=by
 intro w b V g tc S i lg cv cs d hd cy h hi;have HC:=aa (Ok hp abT hm (s:=⟨#[124,124]⟩) (by unfold pr;simp[CI,Ai,xR]) hd cy h hi);unfold cK at HC⊢;clear h;go_enter func54,ntmps54;go_wp2_with fail;refine Zh HC.o ?_;rintro e w1 ⟨x,er,i1,lg1,cv1,cs1,rfl,hr⟩;go_wp2_with fail;go_ret2;exact⟨x,er,i1,lg1,cv1,cs1,rfl,hr⟩
theorem akY(hp:dW T part n 54)(hm:jx part):dW T (iF T CI part) n 26:=by
 intro w b V g tc S i lg cv cs d hd cy h hi;have HC:=aa (Ok hp abY hm (s:=⟨#[124]⟩) (by unfold pr;simp[CI,Ai,xR]) hd cy h hi);unfold cK at HC⊢;clear h;go_enter func26,ntmps26;go_wp2_with fail;refine Zh HC.o ?_;rintro e w1 ⟨x,er,i1,lg1,cv1,cs1,rfl,hr⟩;go_wp2_with fail;go_ret2;exact⟨x,er,i1,lg1,cv1,cs1,rfl,hr⟩
end
theorem akW(kd a:Zg)(t:Zd)(m:Zg)(v:Zb)(lt:Zi)(w:Zf)(hv:eI v):Zr prog 221 #[aI kd a t m v lt] w λe w'=>e=.returned (.bool (decide (kd=2)&&ea ii t))/\Zk w.heap.size w w':=by
 obtain⟨B,hB⟩:∃B,B=ea ii t:=⟨_,rfl⟩
 have HB:=aa hB;rw[<-hB,aI];clear hB;obtain⟨b1,e1⟩:∃b,(t.toList==[61,61])=b:=⟨_,rfl⟩
 obtain⟨b2,e2⟩:∃b,(t.toList==[33,61])=b:=⟨_,rfl⟩
 obtain⟨b3,e3⟩:∃b,(t.toList==[60])=b:=⟨_,rfl⟩
 obtain⟨b4,e4⟩:∃b,(t.toList==[60,61])=b:=⟨_,rfl⟩
 obtain⟨b5,e5⟩:∃b,(t.toList==[62])=b:=⟨_,rfl⟩
 obtain⟨b6,e6⟩:∃b,(t.toList==[62,61])=b:=⟨_,rfl⟩
 have HF:XX (B=(b1 || (b2 || (b3 || (b4 || (b5 || b6)))))):=by
  show _=_;have key:∀l:Za UInt8,(t.toList==l)=decide ((⟨l.toArray⟩:Zd)=t):=λl=>by
   by_cases h:t=⟨l.toArray⟩
   .rw[uA h,decide_eq_true h.symm]
   .rw[fZ h,ZD (λe=>h e.symm)]
  rw[HB.o,<-e1,<-e2,<-e3,<-e4,<-e5,<-e6,key,key,key,key,key,key];simp only[ii,ea]
  repeat' split
  all_goals simp_all
 clear HB;by_cases hk:kd=2
 .subst hk;rw[HF.o];rcases hv with rfl|⟨tv,xv,rfl⟩
  all_goals
   cases b1
   rotate_left
   .go_enter func221,ntmps221;go_wp2;go_ret;exact⟨rfl,(Zm _ w).alloc (Zl _) _⟩
   cases b2
   rotate_left
   .go_enter func221,ntmps221;go_wp2;go_ret;exact⟨rfl,(Zm _ w).alloc (Zl _) _⟩
   cases b3
   rotate_left
   .go_enter func221,ntmps221;go_wp2;go_ret;exact⟨rfl,(Zm _ w).alloc (Zl _) _⟩
   cases b4
   rotate_left
   .go_enter func221,ntmps221;go_wp2;go_ret;exact⟨rfl,(Zm _ w).alloc (Zl _) _⟩
   cases b5
   rotate_left
   .go_enter func221,ntmps221;go_wp2;go_ret;exact⟨rfl,(Zm _ w).alloc (Zl _) _⟩
   cases b6
   all_goals
    go_enter func221,ntmps221;go_wp2;go_ret;exact⟨rfl,(Zm _ w).alloc (Zl _) _⟩
 .have e0:(kd==2)=Zn:=ZI.2 hk;rw[ZD hk];rcases hv with rfl|⟨tv,xv,rfl⟩
  all_goals
   go_enter func221,ntmps221;go_wp2;go_ret;exact⟨rfl,(Zm _ w).alloc (Zl _) _⟩
section
variable {w w':Zf} {b:O} {V:O->Prop} {T:Za (aj×O)} {g tc:O} {S:Zj} {i:O} {d:Zg} {lg:Zi} {cv cv':Zb} {cs:Za Zb}
def vj(T:Za (aj×O))(ch:O->PR)(i:O):PR:=match ch i with
 |.error e=>.error e
 |.ok x=>match ln T x.2 ii with
  |none=>.ok x
  |some s=>match ch (x.2+1)with
   |.error e=>.error e
   |.ok y=>.ok (dn s [x.1,y.1],y.2)
theorem agt(inn:bc)(i:O):fA T inn i=if ag T i jk then(match inn with
 |none=>.error (bE T i)
 |some f=>match f.1 (i+1)with
  |.error e=>.error e
  |.ok x=>.ok (dn jk [x.1],x.2))else vj T (fb T inn) i:=by unfold fA vj;rfl
theorem PY{x:aj×O}(hx:T[i]?=Zc x):∀l:Za Zd,ln T i l=if(decide (aS x.1.kind=2)&&ea l x.1.txt)=Zo then Zc x.1.txt else Ze
 |[]=>by rw[ln,ea];simp
 |s::l=>by
  rw[ln,PY hx l,ag,hx,ea];simp only[Jb];by_cases hk:x.1.kind=115
  .by_cases hs:x.1.txt=s
   .simp[hk,hs]
   .have xB:s≠x.1.txt:=λe=>hs e.symm
    simp[hk,hs,xB]
  .simp[hk]
theorem ZR.up{M:O}(hNM:N<=M)(h:ZR R w (λm=>(V m\/M<=m)/\cv.ownBlock≠Zc m) S x er i' lg lg' cs cs'):ZR R w (λm=>(V m\/N<=m)/\cv.ownBlock≠Zc m) S x er i' lg lg' cs cs':=
 h.keep (λm hm _=>⟨rfl,hm.1.imp_right (λx=>by omega),hm.2⟩)
theorem ZR.ok(h3:lg'=(lg || eN r.1))(h4:NP w A r.1 x)(h5:cs'=cs++new)(h6:bO (CP w A) (gC r.1) new):ZR (.ok r) w A S x .nilIface r.2 lg lg' cs cs':=⟨rfl,rfl,h3,h4,new,h5,h6⟩
theorem ZR.pair{w1:Zf}{cv1 cv2:Zb}{y:Nd}{x1 x2:Zb}{lg1 lg2:Zi}{cs1 cs2 new2:Za Zb}{s:Zd}(hs:s∈pr)
 (k:∀m,((V m\/N<=m)/\cv1.ownBlock≠Zc m)->m<w1.heap.size->w.heap[m]?=w1.heap[m]?/\((V m\/N<=m)/\cv2.ownBlock≠Zc m))
 (a1:lg1=(lg || eN y)) (a2:NP w1 (λm=>(V m\/N<=m)/\cv1.ownBlock≠Zc m) y x1) (a3:cs1=cs++new) (a4:bO (CP w1 (λm=>(V m\/N<=m)/\cv1.ownBlock≠Zc m)) (gC y) new)
 (b1:lg2=(lg1 || eN r.1)) (b2:NP w (λm=>(V m\/N<=m)/\cv2.ownBlock≠Zc m) r.1 x2) (b3:cs2=cs1++new2) (b4:bO (CP w (λm=>(V m\/N<=m)/\cv2.ownBlock≠Zc m)) (gC r.1) new2):
 ZR (.ok (dn s [y,r.1],r.2)) w (λm=>(V m\/N<=m)/\cv2.ownBlock≠Zc m) S (.iface 173 (.agg #[.string s,x1,x2])) .nilIface r.2 lg lg2 cs cs2:=by
 have Fb:s≠eX/\s≠kr:=by
  have:∀x∈pr,x≠eX/\x≠kr:=by decide
  exact this s hs
 refine ZR.ok (r:=(dn s [y,r.1],r.2)) (new:=new++new2) ?_ ?_ ?_ ?_
 .rw[b1,a1,DW Fb.2,Py,ZA]
 .exact NP.mkL (bY.two (NP.keep k _ _ a2) b2) (.pair hs)
 .rw[b3,a3,ZB]
 .rw[D8 Fb.1,PT];exact bO.append (a4.mono (λa c hac=>hac.keep k)) b4
theorem akX{ch:O->PR}(hp:dW T ch n 220):dW T (vj T ch) n 185:=by
 intro w b V g tc S i lg cv cs d hd cy h hi;obtain⟨N,hN⟩:∃N,N=w.heap.size:=⟨_,rfl⟩
 have bT:b<N:=by rw[hN];exact al h.blk
 have aV:=aa h.vb;have HP:=aa hp;have iE:=h.tl;have dN:=aa (hp w b V g tc S i lg cv cs d hd cy h hi);unfold cK at dN⊢;rw[<-hN]at dN⊢;have HN:=aa hN;have hft:=acU;clear hp h hN;obtain⟨Rt,eJ⟩:∃Rt,Rt=vj T ch i:=⟨_,rfl⟩
 have nO:=aa eJ;rw[<-eJ];clear eJ;go_enter func185,ntmps185;go_wp2_with fail;refine Zh dN.o ?_;rintro e w1 ⟨x,er,i1,lg1,cv1,cs1,rfl,hx,bR,bC,ay,aU,aW⟩;have hr:=aW.o;unfold ZR at hr;cases hq:ch i with
 |error p=>
  rw[hq]at hr;have hr:er=aG S p:=hr;subst hr;have HE:XX (Rt=.error p):=by show _=_;rw[nO.o,vj,hq]
  clear aW hq;rw[aG];go_wp2_with fail;go_ret2;exact⟨_,aG S p,i1,lg1,cv1,cs1,rfl,hx,nr S p,bC,ay,aU,by rw[HE.o];exact rfl⟩
 |ok r=>
  rw[hq]at hr;obtain⟨rfl,rfl,q3,q4,new,q5,q6⟩:=hr;obtain⟨y,hy⟩:∃y,T[r.2]?=Zc y:=⟨_,Za.getElem?_eq_getElem aU⟩
  have qG:=PY hy ii;have kB:XX (∀W,Zk w1.heap.size w1 W->Zr prog 27 #[.pointer (Zc ⟨b,0,Ze⟩)] W λe w'=>∃v,e=.returned (aI (aS y.1.kind) y.2 y.1.txt y.1.num v (eL y.1))/\Zk W.heap.size W w'/\eI v/\XX (PV w' V y.1 v)):=λW hW=>uK (ay.below hW) hy
  have Dt:XX (aS y.1.kind=2->r.2+1<T.length):=λe=>by
   have hk:=(Jb _).1 e;have e2:bp T r.2=y.1:=by rw[bp,hy]
   exact ay.more aU (by rw[e2,hk];decide) (by rw[e2,hk];decide)
  have yh:XX (∀W v,eI v->Zr prog 221 #[aI (aS y.1.kind) y.2 y.1.txt y.1.num v (eL y.1)] W λe w'=>e=.returned (.bool (decide (aS y.1.kind=2)&&ea ii y.1.txt))/\Zk W.heap.size W w'):=λW v hv=>akW _ _ _ _ _ _ W hv
  obtain⟨B,hB⟩:∃B,B=(decide (aS y.1.kind=2)&&ea ii y.1.txt):=⟨_,rfl⟩
  rw[<-hB]at yh qG;have ic:=aa hB;have Az:=aa qG;have HQ:=aa hq;have eM:=aa ay;have gO:=aa bC;have ra:=aa (show _/\_/\∃new,cs1=cs++new/\bO (CP w1 _) (gC r.1) new from⟨q3,q4,new,q5,q6⟩);obtain⟨t8,z8,h8⟩:=q4.isif;subst h8;clear aW hq qG hB ay bC q3 q4 q5 q6 hx bR;go_wp2_with fail;refine Zh (kB.o w1 (Zm _ _)) ?_;rintro e w2 ⟨v2,rfl,ah,xE,_⟩;have aY:=aa ah;have lb:=aa (yh.o w2 v2 xE);rw[aI]at lb⊢;clear ah;go_wp2_with fail;refine Zh lb.o ?_;rintro e w3 ⟨rfl,ap⟩;have bo:XX (Zk w1.heap.size w1 w3):=aY.o.trans (ap.mono aY.o.size);clear ap xE;cases B
  .have eY:XX (Rt=.ok r):=by show _=_;rw[nO.o,vj,HQ.o];simp only;rw[Az.o];rfl
   go_wp2_with fail;go_ret2;refine⟨_,.nilIface,r.2,lg1,cv1,cs1,rfl,.inr ⟨_,_,rfl⟩,.inl rfl,gO.o.trans (ZF.of_below bo.o (gO.o.size' HN.o)),eM.o.below bo.o,aU,?_⟩;show ZR _ _ _ _ _ _ _ _ _ _ _;rw[eY.o];obtain⟨h1,h2,new,h3,h4⟩:=ra.o;have k:=λm (hm:(V m\/N<=m)/\cv1.ownBlock≠Zc m) ai=>(⟨bo.o.block m ai,hm⟩:w3.heap[m]?=w1.heap[m]?/\_)
   exact ZR.ok h1 (NP.keep k _ _ h2) h3 (h4.mono (λa c hac=>hac.keep k))
  .have ek:aS y.1.kind=2/\ea ii y.1.txt=Zo:=by have:=ic.o;simpa using this.symm
   have rD:=Dt.o ek.1;have uv:y.1.txt∈pr:=by unfold pr;exact Za.mem_append_right _ ((Ho _ _).1 ek.2)
   have pK:=aa uv;clear ek uv;go_wp2_with fail;refine Zh (kB.o w3 bo.o) ?_;rintro e w4 ⟨v4,rfl,aB,Ci,_⟩;have bq:XX (Zk w1.heap.size w1 w4):=bo.o.trans (aB.mono bo.o.size);have lY:=aa (eM.o.below bq.o);have fL:XX (ZS (w4.setCell ⟨b,1,Ze⟩ (.int .i64 ((r.2:Zg)+1))) b V T g tc S (r.2+1) d lg1 cv1 cs1):=lY.o.at (by simp);have sy:=aa (HP.o _ b V g tc S (r.2+1) lg1 cv1 cs1 d hd cy fL.o rD);unfold cK at sy;obtain⟨y0,y1,y2,y3,y4,yf⟩:=jF lY.o.blk;rw[aI];clear aB y0 y2 y3 y4;rcases Ci with rfl|⟨tv,xv,rfl⟩
   all_goals
    go_wp2_with fail;refine Zh sy.o ?_;rintro e w5 ⟨x5,er5,i5,lg5,cv5,cs5,rfl,oe,BI,nV,im,mM,rO⟩;have zd:N<=(w4.setCell ⟨b,1,Ze⟩ (.int .i64 ((r.2:Zg)+1))).heap.size:=by
     have h1:=gO.o.size' HN.o;have h2:=bq.o.size;simp[ZH];omega
    have jR:XX (ZF N b cv cv5 w w5):=((gO.o.trans (ZF.of_below bq.o (gO.o.size' HN.o))).setb _ _).trans (nV.mono zd);have eY:XX (ZR Rt w5 (λm=>(V m\/N<=m)/\cv5.ownBlock≠Zc m) S (.iface 173 (.agg #[.string y.1.txt,.iface t8 z8,x5])) er5 i5 lg lg5 cs cs5):=by
     show ZR _ _ _ _ _ _ _ _ _ _ _;rw[nO.o,vj,HQ.o];simp only;rw[Az.o];simp only[Zy];have hr:=rO.o;cases hq:ch (r.2+1)with
     |error p=>rw[hq]at hr;exact hr
     |ok r2=>
      rw[hq]at hr;obtain⟨rfl,rfl,p3,p4,new2,p5,p6⟩:=hr;obtain⟨h1,h2,new,h3,h4⟩:=ra.o;have k3:∀m,((V m\/(w4.setCell ⟨b,1,Ze⟩ (.int .i64 ((r.2:Zg)+1))).heap.size<=m)/\cv5.ownBlock≠Zc m)->m<w5.heap.size->w5.heap[m]?=w5.heap[m]?/\((V m\/N<=m)/\cv5.ownBlock≠Zc m):=λm hm _=>⟨rfl,hm.1.imp_right (λx=>by omega),hm.2⟩
      refine ZR.pair pK.o (w1:=w1) (cv1:=cv1) ?_ h1 h2 h3 h4 p3 (NP.keep k3 _ _ p4) p5 (p6.mono (λa c hac=>hac.keep k3));intro m hm ai;have E0:m≠b:=by rcases hm.1 with q|q;have:=aV.o m q;omega;omega
      have EZ:m<w4.heap.size:=ZG ai bq.o.size;have e1:=nV.keepA (V:=V) aV.o bT m hm (by simpa[ZH]using EZ);exact⟨e1.1.trans ((ZE _ _ _ _ (by simpa using E0)).trans (bq.o.block m ai)),e1.2⟩
    have lF:=aa im;clear rO nV im ra sy;rcases oe with rfl|⟨t5,z5,rfl⟩
    .go_wp2_with fail;go_ret2;exact⟨_,er5,i5,lg5,cv5,cs5,rfl,.inr ⟨_,_,rfl⟩,BI,jR.o,lF.o,mM,eY.o⟩
    .go_wp2_with fail;go_ret2;exact⟨_,er5,i5,lg5,cv5,cs5,rfl,.inr ⟨_,_,rfl⟩,BI,jR.o,lF.o,mM,eY.o⟩
end
def yK(T:Za (aj×O)):O->Prop
 |0=>True
 |n+1=>dW T (fA T (bV T n)) n 139/\dW T (fm T (bV T n) 3) n 26
def S8(T:Za (aj×O))(n j:O):PR:=match bV T n with
 |none=>.error 0
 |some f=>f.1 j
section
variable {w w':Zf} {b:O} {V:O->Prop} {T:Za (aj×O)} {g tc:O} {S:Zj} {i:O} {d:Zg} {lg:Zi} {cv cv':Zb} {cs:Za Zb}
def tr(op:Zd)(R:PR):PR:=match R with
 |.error e=>.error e
 |.ok r=>.ok (dn op [r.1],r.2)
theorem ZR.wrap{op:Zd}(h1:op≠eX)(h2:op≠kr){x':Zb}(nB:iL w A op 0 ⟨#[]⟩ [] 0 0 0 Zn Zn Zn Ze [x] x')(h:ZR R w A S x er i' lg lg' cs cs'):ZR (tr op R) w A S x' er i' lg lg' cs cs':=by
 cases R with
 |error e=>exact h
 |ok r=>
  obtain⟨rfl,rfl,q3,q4,new,q5,q6⟩:=h;exact ZR.ok (r:=(dn op [r.1],r.2)) (by rw[DW h2,Px];exact q3) (NP.mkL (bY.one q4) nB) q5 (by rw[D8 h1,PQ];exact q6)
def jq(b:O):Obj:=.cells #[.pointer (Zc ⟨b,0,Ze⟩)] 111
theorem lz(h:w.heap[m]?=Zc (jq b)):w.cell? ⟨m,0,Ze⟩=Zc (.pointer (Zc ⟨b,0,Ze⟩)):=by unfold jq at h;simp[Zf.cell?,h]
theorem abW:∀args W,(Zq 187 args).run prog W=.ok (.enter 187 args) W:=Zx func187 (by kernel_rfl) rfl
theorem ak9{R:O->PR}(hp:dW T R n 139)(hbox:w.heap[m]?=Zc (jq b))(hd:d+(n:Zg)=12)(cy:0<=d)(h:ZS w b V T g tc S i d lg cv cs)(hi:i<T.length)(hN:N<=w.heap.size):
 cK T N b V g tc S d lg cv cs (tr jk (R i)) 187 #[.pointer (Zc ⟨m,0,Ze⟩)] w:=by
 have dN:=aa (hp w b V g tc S i lg cv cs d hd cy h hi);unfold cK at dN⊢;have c0:=lz hbox;clear h hbox hp;go_enter func187,ntmps187;go_wp2_with fail;refine Zh dN.o ?_;rintro e w1 ⟨x,er,i1,lg1,cv1,cs1,rfl,hx,bR,bC,ay,aU,aW⟩;have HR:XX (ZR (tr jk (R i)) w1 (λm=>(V m\/N<=m)/\cv1.ownBlock≠Zc m) S (.iface 244 (.agg #[x])) er i1 lg lg1 cs cs1):=ZR.wrap (by decide) (by decide) .not (aW.o.up hN);have HF:=aa (bC.mono hN);have HS:=aa ay;clear aW bC ay;rcases hx with rfl|⟨t5,z5,rfl⟩
 all_goals
  go_wp2_with fail;go_ret2;exact⟨_,er,i1,lg1,cv1,cs1,rfl,.inr ⟨_,_,rfl⟩,bR,HF.o,HS.o,aU,HR.o⟩
theorem ala(hinn:yK T n)(hc:dW T (vj T (fb T (bV T n))) n 185):dW T (fA T (bV T n)) n 139:=by
 intro w b V g tc S i lg cv cs d hd cy h hi;obtain⟨W,hW⟩:∃W,W=w.alloc (jq b):=⟨_,rfl⟩
 have hB:Zk w.heap.size w W:=by rw[hW];exact(Zm _ w).alloc (Zl _) _
 have jK:W.heap[w.heap.size]?=Zc (jq b):=by rw[hW];exact aE rfl
 have lN:=h.below hB;have c0:=lz jK;have qW:=aa (pD lN hi ⟨#[33]⟩);have dF:=aa hB;have bT:b<w.heap.size:=al h.blk;have aV:=aa h.vb;have fL:=aa lN;have fU:=aa jK;rw[show cK T w.heap.size b V g tc S d lg cv cs (fA T (bV T n) i) 139 #[.pointer (Zc ⟨b,0,Ze⟩)] w=cK T w.heap.size b V g tc S d lg cv cs (if ag T i ⟨#[33]⟩then(Bm T n (λj=>tr jk (S8 T n j)) i)else vj T (fb T (bV T n)) i) 139 #[.pointer (Zc ⟨b,0,Ze⟩)] w from by
  congr 1
  rw[agt,show jk=⟨#[33]⟩from rfl];by_cases jD:ag T i ⟨#[33]⟩=Zo
  .rw[Zv jD,Zv jD];cases n with
   |zero=>rfl
   |succ n=>rw[Bm,bV];rfl
  .rw[Zu jD,Zu jD]]
 have Dt:XX (ag T i ⟨#[33]⟩=Zo->i+1<T.length):=λe=>h.sgn_more hi e
 obtain⟨B,QQ⟩:∃B,B=ag T i ⟨#[33]⟩:=⟨_,rfl⟩
 rw[<-QQ]at qW Dt⊢;unfold cK;clear h lN hB QQ jK;unfold jq at hW;subst hW;cases B
 .rw[Zu (by simp)];have HC:XX (∀W1,Zk (w.alloc (.cells #[.pointer (Zc ⟨b,0,Ze⟩)] 111)).heap.size (w.alloc (.cells #[.pointer (Zc ⟨b,0,Ze⟩)] 111)) W1->_):=λW1 h1=>hc W1 b V g tc S i lg cv cs d hd cy (fL.o.below h1) hi
  unfold cK at HC;go_enter func139,ntmps139;go_wp2_with fail;refine Zh qW.o ?_;rintro e w1 ⟨rfl,ae⟩;have c1:=gi c0 ae;have aT:XX (Zk w.heap.size w w1):=dF.o.trans (ae.mono dF.o.size);go_wp2_with fail;refine Zh (HC.o w1 ae) ?_;rintro e w2 ⟨x,er,i1,lg1,cv1,cs1,rfl,hx,bR,bC,ay,aU,aW⟩;go_wp2_with fail;go_ret2;exact⟨x,er,i1,lg1,cv1,cs1,rfl,hx,bR,(ZF.of_below aT.o (Zl _)).trans (bC.mono aT.o.size),ay,aU,aW.o.up aT.o.size⟩
 .rw[Zv rfl];have HD:XX (∀W1,Zk (w.alloc (.cells #[.pointer (Zc ⟨b,0,Ze⟩)] 111)).heap.size (w.alloc (.cells #[.pointer (Zc ⟨b,0,Ze⟩)] 111)) W1->cK T w.heap.size b V g tc S d lg cv cs (Bm T n (λj=>tr jk (S8 T n j)) i) 186 #[.pointer (Zc ⟨b,0,Ze⟩),.func (.func 187) #[] #[.pointer (Zc ⟨w.heap.size,0,Ze⟩)]] W1):=λW1 h1=>by
   have hz:w.heap.size<=W1.heap.size:=Zp dF.o.size h1.size;refine Oj (n:=n) (.inr rfl) abW hd cy (fL.o.below h1) (Dt.o rfl) hz bT (λn' hn W2 jA cB=>?_);subst hn;show cK T w.heap.size b V g tc S (d+1) lg cv cs (tr jk (fA T (bV T n') (i+1))) _ _ W2;exact ak9 (n:=n') hinn.1 ((jA.block _ (by have:=al fU.o;exact ZG this h1.size) (by simp;omega)).trans ((h1.block _ (al fU.o)).trans fU.o)) (by omega) (by omega) cB (Dt.o rfl) (Zp hz jA.size)
  unfold cK at HD;go_enter func139,ntmps139;go_wp2_with fail;refine Zh qW.o ?_;rintro e w1 ⟨rfl,ae⟩;have c1:=gi c0 ae;have aT:XX (Zk w.heap.size w w1):=dF.o.trans (ae.mono dF.o.size);go_wp2_with fail;refine Zh (HD.o w1 ae) ?_;rintro e w2 ⟨x,er,i1,lg1,cv1,cs1,rfl,hx,bR,bC,ay,aU,aW⟩;go_wp2_with fail;go_ret2;exact⟨x,er,i1,lg1,cv1,cs1,rfl,hx,bR,(ZF.of_below aT.o (Zl _)).trans bC,ay,aU,aW⟩
end
abbrev Kn:=O->Zw O (Za Zd×Nd×O)
def qR(T:Za (aj×O))(thing:Kn)(c:Zd)(i:O):Zw O (Za Zd×Za Nd×O):=match dY T thing T.length [] [] i with
 |.error e=>.error e
 |.ok y=>if ag T y.2.2 c then .ok (y.1,y.2.1,y.2.2+1)else .error (bE T y.2.2)
section
variable {w w':Zf} {b:O} {V:O->Prop} {T:Za (aj×O)} {g tc:O} {S:Zj} {i:O} {d:Zg} {lg:Zi} {cv cv':Zb} {cs:Za Zb}
def wY(R:Zw O (Za Zd×Nd×O))(S:Zj)(er:Zb)(i':O)(lg lg':Zi)(cs cs':Za Zb)(VI:Za Zd->Za Nd->Za Zb->Prop)(ks:Za Zd)(l:Za Nd)(new:Za Zb):Prop:=match R with
 |.error p=>er=aG S p
 | .ok y=>er=.nilIface/\i'=y.2.2/\lg'=(lg || eN y.2.1)/\∃new2,cs'=cs++new2/\VI (ks++y.1) (l++[y.2.1]) (new++new2)
def Gx(R:Zw O (Za Zd×Za Nd×O))(S:Zj)(er:Zb)(i':O)(lg lg':Zi)(cs cs':Za Zb)(VI:Za Zd->Za Nd->Za Zb->Prop):Prop:=match R with
 |.error p=>er=aG S p
 | .ok y=>er=.nilIface/\i'=y.2.2/\lg'=(lg || gz y.2.1)/\∃new,cs'=cs++new/\VI y.1 y.2.1 new
def CH(T:Za (aj×O))(thing:Kn)(c:Zd)(f:O)(ks:Za Zd)(l:Za Nd)(i:O):Zw O (Za Zd×Za Nd×O):=match dY T thing f ks l i with
 |.error e=>.error e
 |.ok y=>if ag T y.2.2 c then .ok (y.1,y.2.1,y.2.2+1)else .error (bE T y.2.2)
theorem Aj{s t:Zd}(h:ag T k s=Zo)(bj:s≠t):ag T k t=Zn:=by
 unfold ag at h⊢;cases hx:T[k]? with
 |none=>rfl
 |some x=>
  rw[hx]at h;simp at h⊢;intro _ e;exact bj (h.2.symm.trans e)
theorem Ol{cap:Array Zb}(eg:∀args W,(Zq fn args).run prog W=.ok (.enter fn args) W){thing:Kn}(hm:∀i y,thing i=.ok y->i<y.2.2)(VI:Zf->Zb->Za Zd->Za Nd->Za Zb->Prop)(WK:Zf->Prop)
 (hVI:∀W W' cv ks l new,VI W cv ks l new->ab b W W'->VI W' cv ks l new) (hWK:∀W W',WK W->ab b W W'->WK W')
 (hth:∀W cv1 cs1 lg1 ks l new j,ZS W b V T g tc S j d lg1 cv1 cs1->j<T.length->VI W cv1 ks l new->WK W->N<=W.heap.size->l.length<=j->Zr prog fn cap W λe w'=>∃er i' lg' cv' cs',e=.returned er/\eI er/\ZF N b cv1 cv' W w'/\ZS w' b V T g tc S i' d lg' cv' cs'/\i'<T.length/\WK w'/\XX (wY (thing j) S er i' lg1 lg' cs1 cs' (VI w' cv') ks l new))
 (c:Zd) (hc:c≠kX) (h:ZS w b V T g tc S i d lg cv cs) (hi:i<T.length) (hv:VI w cv [] [] []) (hw:WK w) (hN:N<=w.heap.size):
 Zr prog 253 #[.pointer (Zc ⟨b,0,Ze⟩),.string c,.func (.func fn) #[] cap] w λe w'=>∃er i' lg' cv' cs',e=.returned er/\eI er/\ZF N b cv cv' w w'/\ZS w' b V T g tc S i' d lg' cv' cs'/\i'<T.length/\WK w'/\XX (Gx (qR T thing c i) S er i' lg lg' cs cs' (VI w' cv')):=by
 obtain⟨Rt,eJ⟩:∃Rt,Rt=qR T thing c i:=⟨_,rfl⟩
 have Q5:Rt=CH T thing c T.length [] [] i:=eJ;rw[<-eJ];have O9:=aa hVI;have yE:=aa hWK;have J6:=aa hth;have HM:=aa hm;have H0:=aa Q5;have HV:=aa hv;have HS:=aa h;have HW:=aa hw;clear eJ Q5 hVI hWK hth hm hv h hw;go_enter func253,ntmps253;go_wp2_with fail;go_loopg [] (T.length+1) (λgh wr=>∃j lg1 cv1 cs1 ks l new f,ZF N b cv cv1 w wr/\ZS wr b V T g tc S j d lg1 cv1 cs1/\j<T.length/\VI wr cv1 ks l new/\WK wr/\cs1=cs++new/\lg1=(lg || gz l)/\Rt=CH T thing c f ks l j/\T.length<=f+j/\T.length<gh+j/\l.length<=j)
 case atStart=>exact⟨i,lg,cv,cs,[],[],[],T.length,ZF.refl _ _ _ _,HS.o,hi,HV.o,HW.o,by simp,by rw[gz];simp,H0.o,by omega,by omega,by simp⟩
 case round=>
  obtain⟨j,lg1,cv1,cs1,ks,l,new,f,bC,ay,hj,xD,dE,gF,oH,dU,rz,hg,mc⟩:=hrel;obtain⟨f',rfl⟩:∃f',f=f'+1:=⟨f-1,by omega⟩
  have jz:N<=wr.heap.size:=Zp hN bC.size;have HC:=aa (J6.o wr cv1 cs1 lg1 ks l new j ay hj xD dE jz mc);have gO:=aa bC;have tP:=aa dU;have uP:=aa (And.intro gF oH);clear bC ay xD dE dU gF oH;go_wp2_with fail;refine Zh HC.o ?_;rintro e w2 ⟨er,i2,lg2,cv2,cs2,rfl,bR,l7,cB,dL,lO,ht⟩;have cF:XX (ZF N b cv cv2 w w2):=gO.o.trans l7;have vS:=ht.o;unfold wY at vS;cases hq:thing j with
  |error p=>
   rw[hq]at vS;have vS:er=aG S p:=vS;subst vS;have HE:XX (Rt=.error p):=by show _=_;rw[tP.o,CH,dY,hq]
   clear ht hq;rw[aG];go_wp2_with fail;go_ret;exact⟨aG S p,i2,lg2,cv2,cs2,rfl,nr S p,cF.o,cB,dL,lO,by rw[HE.o];exact rfl⟩
  |ok y=>
   rw[hq]at vS;obtain⟨rfl,rfl,q3,new2,q5,q6⟩:=vS;have zD:=HM.o j y hq;have HQ:XX (cs2=cs++(new++new2)/\lg2=(lg || gz (l++[y.2.1]))):=⟨by rw[q5,uP.o.1,ZB],by rw[q3,uP.o.2,Kp,ZA]⟩
   have AT:=aa q6;have va:=aa lO;have eu:XX (∀s,ag T y.2.2 s=Zo->y.2.2+1<T.length):=λs e=>cB.sgn_more dL e
   have gv:=aa (qk cB dL c);have ms:XX (Rt=if ag T y.2.2 kX then CH T thing c f' (ks++y.1) (l++[y.2.1]) (y.2.2+1)else if ag T y.2.2 c then .ok (ks++y.1,l++[y.2.1],y.2.2+1)else .error (bE T y.2.2)):=by
    show _=_;rw[tP.o,CH,dY,hq];simp only;by_cases oG:ag T y.2.2 kX=Zo
    .rw[Zv oG,Zv oG];rfl
    .rw[Zu oG,Zu oG]
   obtain⟨B,hB⟩:∃B,B=ag T y.2.2 c:=⟨_,rfl⟩
   have ic:=aa hB;rw[<-hB]at gv;clear ht hq q3 q5 q6 cB hB l7 bR lO;go_wp2_with fail;refine Zh gv.o ?_;rintro e w3 ⟨rfl,pZ,bm⟩;have Hh:N<=w2.heap.size:=Zp hN cF.o.size;have eh:XX (ZF N b cv cv2 w w3):=cF.o.trans (ZF.of_but pZ Hh);have DH:=aa (O9.o _ _ _ _ _ _ AT.o pZ);have Gp:=aa (yE.o _ _ va.o pZ);cases B
   .simp only[Zz,if_false]at bm;have gw:=aa (qk bm dL ⟨#[44]⟩);have jb:=aa bm;obtain⟨B2,bZ⟩:∃B2,B2=ag T y.2.2 ⟨#[44]⟩:=⟨_,rfl⟩
    have JC:=aa bZ;rw[<-bZ]at gw;clear bm pZ bZ;go_wp2_with fail;refine Zh gw.o ?_;rintro e w4 ⟨rfl,vF,rP⟩;have hN3:N<=w3.heap.size:=Zp hN eh.o.size;have lW:XX (ZF N b cv cv2 w w4):=eh.o.trans (ZF.of_but vF hN3);have DI:=aa (O9.o _ _ _ _ _ _ DH.o vF);have Gq:=aa (yE.o _ _ Gp.o vF);cases B2
    .simp only[Zz,if_false]at rP;have HE:XX (Rt=.error (bE T y.2.2)):=by show _=_;rw[ms.o,show kX=⟨#[44]⟩from rfl,<-JC.o,<-ic.o];rfl
     have wS:=aa (uL rP dL);have lY:=aa rP;clear rP vF;go_wp2_with fail;refine Zh wS.o ?_;rintro e w5 ⟨rfl,bP⟩;rw[aG];go_wp2_with fail;go_ret;exact⟨aG S (bE T y.2.2),y.2.2,lg2,cv2,cs2,rfl,nr _ _,lW.o.trans (ZF.of_below bP (Zp hN lW.o.size)),lY.o.below bP,dL,yE.o _ _ Gq.o ((ab.refl b _).of_below bP),by rw[HE.o];exact rfl⟩
    .simp only[Zy]at rP;have HE:XX (Rt=CH T thing c f' (ks++y.1) (l++[y.2.1]) (y.2.2+1)):=by show _=_;rw[ms.o,show kX=⟨#[44]⟩from rfl,<-JC.o];rfl
     have zu:=eu.o _ JC.o.symm;have lY:=aa rP;clear rP vF;go_wp2;go_roundg (gk-1)
     case measure=>omega
     case rel=>exact⟨y.2.2+1,lg2,cv2,cs2,ks++y.1,l++[y.2.1],new++new2,f',lW.o,lY.o,zu,DI.o,Gq.o,HQ.o.1,HQ.o.2,HE.o,by omega,by omega,by rw[Za.length_append,Za.length_singleton];omega⟩
   .simp only[Zy]at bm;have HE:XX (Rt=.ok (ks++y.1,l++[y.2.1],y.2.2+1)):=by show _=_;rw[ms.o,Aj ic.o.symm hc,<-ic.o];rfl
    have rD:=eu.o _ ic.o.symm;have jb:=aa bm;clear bm pZ;go_wp2_with fail;go_ret;exact⟨.nilIface,y.2.2+1,lg2,cv2,cs2,rfl,.inl rfl,eh.o,jb.o,rD,Gp.o,by rw[HE.o];exact⟨rfl,rfl,HQ.o.2,new++new2,HQ.o.1,DH.o⟩⟩
end
end Go.Proofs.YtdlgkgfeoiohiaaGreatDoor
