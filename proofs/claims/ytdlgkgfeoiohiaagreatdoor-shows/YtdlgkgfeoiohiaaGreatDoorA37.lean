/- Part 37. -/
import Derived.Test.YtdlgkgfeoiohiaaGreatDoorA34
open Go renaming Calls -> Zb,Value -> Ze,World -> Zj,Addr -> Zo,wpList -> Zv,info_parts -> ZA
open Go.Calls renaming mono -> Zi
open Go.Lib renaming OthersKept -> ZB
open Go.Lib.OthersKept renaming refl -> Zt
open Go.Proofs renaming enters_of -> Zl
open Go.RowKit renaming Below -> Zc
open Go.RowKit.Below renaming refl -> Zr
open Go.Value renaming ownBlock -> Zz
open Go.World renaming cell? -> Zx
open Go.World.ownsRow renaming lt -> ZE
open List renaming length_append -> Zg,length_cons -> Zm,length_nil -> Zn,getElem?_eq_getElem -> Zp,length_singleton -> Zq,append_nil -> Zy
open Nat renaming le_trans -> Zu,le_refl -> Zw,mul_one -> ZC,zero_le -> ZD
open Option renaming some -> Za,none -> Zd
open _root_ renaming List -> O,UInt8 -> Zf,Nat -> Zh,ByteArray -> Zk
namespace Go.Proofs.YtdlgkgfeoiohiaaGreatDoor
set_option linter.unusedVariables false
set_option maxHeartbeats 16000000
set_option maxRecDepth 100000
open Go.RowKit J Go.Proofs.Tryz
variable {l:O Nd}{ps:O Ze}{w W0 W:Zj}{sl p out:Ze}{ops:Array Oper}{rest:O Oper}{o:Oper}{a:Act}{Q:Exit->Act->Zj->Prop}{acc:O Zf}{t:TypeId}{L S N A J La:Zo}{b g:Zh}{y:Nd}
def xS(t:TypeId):Zh:=if t=290 then 319 else if t=293 then 321 else if t=297 then 322 else if t=298 then 324 else if t=299 then 325 else if t=301 then 326 else if t=289 then 318 else if t=287 then 317 else if t=284 then 314 else if t=286 then 316 else if t=65 then 282 else if t=291 then 320 else if t=303 then 327 else if t=277 then 312 else if t=244 then 308 else if t=179 then 306 else 305
theorem Iz(ht : t ∈ ol) (v : Ze) (W : Zj): (method 437 t v "pluck/tree.show").run prog W = .ok (xS t, v) W ∧ ∀args W, (callFunc (xS t) args).run prog W = .ok (.enter (xS t) args) W := by
 simp only[ol,rT,O.cons_append,O.nil_append,O.mem_cons,O.not_mem_nil,or_false]at ht;rcases ht with rfl|rfl|rfl|rfl|rfl|rfl|rfl|rfl|rfl|rfl|rfl|rfl|rfl|rfl|rfl|rfl|rfl
 .exact⟨by kernel_rfl,Zl func319 (by kernel_rfl) rfl⟩
 .exact⟨by kernel_rfl,Zl func321 (by kernel_rfl) rfl⟩
 .exact⟨by kernel_rfl,Zl func322 (by kernel_rfl) rfl⟩
 .exact⟨by kernel_rfl,Zl func324 (by kernel_rfl) rfl⟩
 .exact⟨by kernel_rfl,Zl func325 (by kernel_rfl) rfl⟩
 .exact⟨by kernel_rfl,Zl func326 (by kernel_rfl) rfl⟩
 .exact⟨by kernel_rfl,Zl func318 (by kernel_rfl) rfl⟩
 .exact⟨by kernel_rfl,Zl func317 (by kernel_rfl) rfl⟩
 .exact⟨by kernel_rfl,Zl func314 (by kernel_rfl) rfl⟩
 .exact⟨by kernel_rfl,Zl func316 (by kernel_rfl) rfl⟩
 .exact⟨by kernel_rfl,Zl func282 (by kernel_rfl) rfl⟩
 .exact⟨by kernel_rfl,Zl func320 (by kernel_rfl) rfl⟩
 .exact⟨by kernel_rfl,Zl func327 (by kernel_rfl) rfl⟩
 .exact⟨by kernel_rfl,Zl func312 (by kernel_rfl) rfl⟩
 .exact⟨by kernel_rfl,Zl func308 (by kernel_rfl) rfl⟩
 .exact⟨by kernel_rfl,Zl func306 (by kernel_rfl) rfl⟩
 .exact⟨by kernel_rfl,Zl func305 (by kernel_rfl) rfl⟩
theorem kG(hgd:o.guard=Zd)(s x:Operand)
 (ho:o.op=.call { callee:=.builtin .append,args:=#[s,x],argTypes:=#[49,49] })
 (N:Zh) (v:Ze) (l:O Zf) (hs:a.eval s=v) (am:OB w N v l) (ad:Zo) (m c:Zh) (news:O Zf) (hx:a.eval x=.slice (Za ad) m c) (hm:m=news.length)
 (hnews:∀j u,(bv news)[j]?=Za u->w.cell? (ad.add j)=Za u) (hl:l.length+news.length<=4000000000) (hbase:N<=w.heap.size)
 (h:∀v' w',OB w' N v' (l++news)->w.grownBy w' v.ownBlock->Zv prog ops Q rest (a.put o.dst v') w'):Zv prog ops Q (o::rest) a w:=by
 obtain⟨i0,hi,ip,ee,dP⟩:=ZA zS;refine wpList_append_own w hgd s x 49 ho N 5 i0 (.int .u8 0) 1 1 underlying49 hi ip ee dP rfl (by decide) v l.length (bv l) hs am ad m c (bv news) hx (by rw[D6,hm,ZC]) hnews (M7 _) (by unfold maxLen;omega) (by omega) hbase ?_;intro v' w' h1 h2 _;refine h v' w' ?_ h2;unfold OB;rw[tZ,Zg,<-hm];exact h1
theorem Bb(hgd:o.guard=Zd)(s x:Operand)
 (ho:o.op=.call { callee:=.builtin .append,args:=#[s,x],argTypes:=#[49,9] })
 (N:Zh) (v:Ze) (l:O Zf) (hs:a.eval s=v) (am:OB w N v l) (t:Zk) (hx:a.eval x=.string t) (hl:l.length+t.size<=4000000000) (hbase:N<=w.heap.size)
 (h:∀v' w',OB w' N v' (l++t.data.toList)->w.grownBy w' v.ownBlock->Zv prog ops Q rest (a.put o.dst v') w'):Zv prog ops Q (o::rest) a w:=by
 obtain⟨i0,hi,ip,ee,dP⟩:=ZA zS;refine Lib.wpList_append_own_string w hgd s x 49 9 ho N 5 i0 underlying49 underlying9 hi ip ee dP v l.length (bv l) hs am t hx (by unfold maxLen;omega) (by omega) hbase ?_;intro v' w' h1 h2 _;refine h v' w' ?_ h2;unfold OB;rw[tZ,Zg];exact h1
structure SW(N:Zh)(w0 w:Zj)(out:Ze)(acc:O Zf):Prop where
 ob:OB w N out acc
 bel:Zc N w0 w
 sz:N<=w.heap.size
 kept:ZB 5 Zd w0 w
section
variable {N:Zh} {w0 w w1:Zj} {out o:Ze} {acc acc2 news:O Zf}
theorem SW.start(h:OB w N out acc)(hN:N<=w.heap.size):SW N w w out acc:=⟨h,Zr _ _,hN,Zt _ _ _⟩
theorem SW.alloc(h:SW N w0 w out acc)(ob:Obj):SW N w0 (w.alloc ob) out acc:=⟨h.ob.alloc ob,h.bel.alloc h.sz _,by have:=h.sz;simp;omega,h.kept.alloc ob⟩
theorem SW.grow(h:SW N w0 w out acc)(am:OB w1 N o acc2)(hg:w.grownBy w1 out.ownBlock):SW N w0 w1 o acc2:=
 ⟨am,h.bel.grown hg h.sz h.ob.below,Zu h.sz hg.size,kV h.kept h.ob hg⟩
theorem SW.trans(h:SW N w0 w out acc)(k:SW N w w1 o acc2):SW N w0 w1 o acc2:=⟨k.ob,h.bel.trans k.bel,k.sz,h.kept.trans k.kept⟩
theorem SW.below(h:SW N w0 w out acc)(hb:Zc w.heap.size w w1):SW N w0 w1 out acc:=⟨Aa h.ob hb,h.bel.trans (hb.mono h.sz),Zu h.sz hb.size,h.kept.below hb⟩
theorem ao.oth(h:ao w 36 sl ps)(hk:ZB 5 Zd w w1):ao w1 36 sl ps:=by
 refine h.same (λk ek=>?_);rcases h.2 with⟨e,_⟩|⟨g,cap,cur,e,_,hg,_⟩
 .rw[e]at ek;simp[Zz]at ek
 .rw[e]at ek;simp[Zz]at ek;subst ek;rw[hk g _ hg (by simp) (by intro c fz e;injection e with _ e2;exact absurd e2 (by decide)),hg]
end
def ft(N:Zh)(w:Zj)(acc:O Zf)(e:Ending)(w':Zj):Prop:=∃o,e=.returned o/\XX (SW N w w' o acc)
def yN(W0:Zj)(y:Nd)(t:TypeId)(v:Ze):Prop:=∀(w:Zj) (out:Ze) (acc:O Zf),Zc W0.heap.size W0 w->OB w W0.heap.size out acc->acc.length+(gZ y).length<=3000000000->Zb prog (xS t) #[v,out] w λe w'=>ft W0.heap.size w (acc++gZ y) e w'
theorem Np(s:Zk)(w:Zj)(M:Zh)(out:Ze)(acc:O Zf)(hS:fw w L S N A J La)(hs:s.size<=1000)(hM:M<=w.heap.size)(ho:OB w M out acc)(hl:acc.length+(dt s.data.toList).length<=3000000000)(hq:(dt s.data.toList).length<=600000):
 Zb prog 315 #[out,.string s] w λe w'=>ft M w (acc++dt s.data.toList) e w':=by
 have HT:XX (Zb prog 12 #[.iface 80 (.string s)] w λe w'=>e=.returned (.string (bs (dt s.data.toList)))/\Zc w.heap.size w w'):=Ug 0 (Lf.str s) (.iface 80 (.string s)) w rfl (show s.size<=100000 by omega) hS.pow hq;have H0:=aa (SW.start ho hM);clear hS hs ho hM;go_enter func315,ntmps315;go_wp2_with fail;refine Zi HT.o ?_;rintro e w1 ⟨rfl,ae⟩;have H1:=aa (H0.o.below ae);clear ae;go_wp2_with (at_builtin;refine Bb rfl (.tmp 5) (.tmp 8) rfl M _ acc rfl ?h1 (bs (dt s.data.toList)) rfl ?h2 ?h3 ?_)
 case h1=>exact H1.o.ob
 case h2=>rw[eO];omega
 case h3=>exact H1.o.sz
 intro v3 w3 bz aP;have H3:=aa (H1.o.grow bz aP);clear bz aP;go_wp2;go_ret;exact⟨_,rfl,H3.o⟩
theorem afV(n:Int)(h:-10000000<=n/\n<=10000000):Lib.itoa n=gK n:=by
 unfold Lib.itoa gK;rw[Qb n.natAbs (by omega)];by_cases hn:n<0
 .rw[if_pos hn,if_pos hn]
 .rw[if_neg hn,if_neg hn,show n.toNat=n.natAbs by omega]
theorem Ni(n:Int)(w:Zj)(M:Zh)(out:Ze)(acc:O Zf)(W0:Zj)(hS:fw W0 L S N A J La)(hW:M=W0.heap.size)(hb:Zc M W0 w)(hn:-10000000<=n/\n<=10000000)(ho:OB w M out acc)(hl:acc.length<=3000000000):
 Zb prog 74 #[out,.int .i64 n,.int .i64 10] w λe w'=>ft M w (acc++gK n) e w':=by
 subst hW;have hM:W0.heap.size<=w.heap.size:=hb.size;refine(Tryz.strconv_AppendInt_10 W0.heap.size acc.length n (by omega) (by omega) out (bv acc) w ho hM (by omega) (λw2 h2=>hS.pow w2 (hb.trans h2))).mono ?_;rintro e w1 ⟨v1,rfl,h1,h2,h3⟩;refine⟨v1,rfl,?_,h2,Zu hM h2.size,h3⟩;rw[afV n hn]at h1;have e1:Lib.byteCells (gK n)=bv (gK n):=rfl;rw[e1]at h1;show Zj.ownsRow _ _ _ _ _ _ _;rw[tZ,Zg];exact h1
theorem Ud(hr:ao w 36 sl ps)(em:ps.length=l.length)(hl:∀(k:Zh) (y:Nd),l[k]?=Za y->∃t v,ps[k]?=Za (.iface t v)/\t∈ol/\yN W0 y t v)
 (hb:Zc W0.heap.size W0 w) (ho:OB w W0.heap.size out acc) (hn:acc.length+(dm [] (cq l)).length<=3000000000) (rJ:l.length<=1000):
 Zb prog 284 #[out,sl] w λe w'=>ft W0.heap.size w (acc++dm [] (cq l)) e w':=by
 obtain⟨N,hN⟩:∃N,N=W0.heap.size:=⟨_,rfl⟩
 rw[<-hN]at hb ho⊢;have rq:N<=w.heap.size:=by have:=hb.size;omega
 have bB:=aa hb;have uX:=aa hr;have HL:=aa hl;have jG:=aa (SW.start ho rq);have j9:=aa hN;obtain⟨a,cap,km⟩:∃a cap,sl=.slice a ps.length cap:=by
  rcases hr.len with⟨h1,h2⟩|⟨g,cap,h1,_⟩
  .exact⟨Zd,0,by rw[h1,h2];rfl⟩
  .exact⟨_,cap,h1⟩
 have rb:=aa km;obtain⟨Jv,hJ⟩:∃Jv,Jv=dm [] (cq l):=⟨_,rfl⟩
 have yp:XX (jw Jv [] (cq l) 0 []):=by show jw _ _ _ _ _;rw[hJ];exact jw.start _ _
 rw[<-hJ]at hn⊢;subst km;clear hr hl hb ho hN hJ;go_enter func284,ntmps284;go_wp2_with fail;go_loopg [0,9] (ps.length+1) (λgh ov iv wr=>∃k acc2,iv=.int .i64 (k:Zh)/\k<=ps.length/\ps.length<gh+k/\jw Jv [] (cq l) k acc2/\SW N w wr ov (acc++acc2))
 case atStart=>exact⟨0,[],rfl,by omega,by omega,yp.o,by rw[Zy];exact jG.o⟩
 case round=>
  obtain⟨k,acc2,rfl,hk,mL,zb,Fe⟩:=hrel;obtain⟨gh',rfl⟩:∃g,gk=g+1:=⟨gk-1,by omega⟩
  have Dm:=aa zb;have fL:=aa Fe;have az:=zb.len;clear zb Fe jG yp;rcases Zh.lt_or_ge k ps.length with h1|h1
  .have kj:(k:Int)<(ps.length:Int):=by omega
   have dO:k<l.length:=by omega
   obtain⟨t,v,zH,mh,s9⟩:=HL.o k (l[k]'dO) (Zp dO);have lM:=uX.o.oth fL.o.kept;obtain⟨g,rfl,jZ⟩:∃g,a=Za ⟨g,0,Zd⟩/\wr.cell? ⟨g,k,Zd⟩=Za (.iface t v):=by
    rcases lM.len with⟨h1,h2⟩|⟨g,cp,h1,_⟩
    .rw[h2]at zH;simp at zH
    .injection h1 with h1 _ _;subst h1;exact⟨g,rfl,lM.get zH⟩
   have HX:=aa (Dm.o.next (x:=gZ (l[k]'dO)) (by rw[IY,Zp dO];rfl));have sm:=aa (Iz mh v);have zB:=λW=>(sm.o W).1
   have o9:=(sm.o wr).2;have DC:=aa s9;obtain⟨Y,hY⟩:∃Y,Y=gZ (l[k]'dO):=⟨_,rfl⟩
   rw[<-hY]at HX;have HY:=aa hY;have Kc:=aa HX.o.len;clear lM zH mh s9 hY;rcases(show k=0\/0<k from by omega)with rfl|fe
   .have HC:XX (Zb prog (xS t) #[v,u0] wr λe w'=>ft N wr (acc++acc2++Y) e w'):=by
     have:=DC.o wr u0 (acc++acc2) (by rw[<-j9.o];exact bB.o.trans fL.o.bel) (by rw[<-j9.o];exact fL.o.ob) (by have:=Kc.o;simp at this;rw[<-HY.o,Zg];omega);rw[<-j9.o,<-HY.o]at this;exact this
    go_wp2_with fail;refine Zi HC.o ?_;rintro e w2 ⟨o2,rfl,h2⟩;have H2:=aa (fL.o.trans h2.o);clear h2;go_wp2;go_roundg gh'
    case measure=>omega
    case rel=>exact⟨1,acc2++Y,by go_num,by omega,by omega,by have:=HX.o;simpa using this,by rw[<-O.append_assoc];exact H2.o⟩
   .have aev:(0:Int)<(k:Int):=by omega
    rw[decide_eq_true fe,if_pos rfl,O.drop_nil,O.headD_nil,Zy]at HX Kc;have jN:=Kc.o;simp only[Zg,Zq]at jN;go_wp2_with (at_builtin;refine kG rfl (.tmp 16) (.tmp 17) rfl N _ (acc++acc2) rfl ?h1 _ _ _ [32] rfl rfl ?h2 ?h3 ?h4 ?_)
    case h1=>exact fL.o.ob.alloc _
    case h2=>exact cX rfl _ _ rfl
    case h3=>simp only[Zg,Zq];omega
    case h4=>have:=fL.o.sz;simp;omega
    intro v3 w3 bz aP;have H3:XX (SW N w w3 v3 (acc++acc2++[32])):=by
     have:=(fL.o.alloc _).grow bz aP;show SW _ _ _ _ _;simpa using this
    have HC:XX (Zb prog (xS t) #[v,v3] w3 λe w'=>ft N w3 (acc++acc2++[32]++Y) e w'):=by
     have:=DC.o w3 v3 (acc++acc2++[32]) (by rw[<-j9.o];exact bB.o.trans H3.o.bel) (by rw[<-j9.o];exact H3.o.ob) (by rw[<-HY.o];simp only[Zg,Zq];omega);rw[<-j9.o,<-HY.o]at this;exact this
    clear bz aP jZ;go_wp2_with fail;refine Zi HC.o ?_;rintro e w4 ⟨o2,rfl,h2⟩;have H4:=aa (H3.o.trans h2.o);clear h2;go_wp2;go_roundg gh'
    case measure=>omega
    case rel=>exact⟨k+1,acc2++[32]++Y,by go_num,by omega,by omega,HX.o,by have:=H4.o;simpa using this⟩
  .have kj:¬(k:Int)<(ps.length:Int):=by omega
   have HE:XX (acc2=Jv):=Dm.o.fin (by rw[IZ];omega);go_wp2;go_ret;exact⟨_,rfl,by show SW _ _ _ _ _;rw[<-HE.o];exact fL.o⟩
theorem Fy(s:Zk)(hr:ao w 36 sl ps)(em:ps.length=l.length)(hl:∀(k:Zh) (y:Nd),l[k]?=Za y->∃t v,ps[k]?=Za (.iface t v)/\t∈ol/\yN W0 y t v)
 (hb:Zc W0.heap.size W0 w) (ho:OB w W0.heap.size out acc) (hs:s.size<=1000) (hn:acc.length+(40::s.data.toList++32::dm [] (cq l)++[41]).length<=3000000000) (rJ:l.length<=1000):
 Zb prog 283 #[out,.string s,sl] w λe w'=>ft W0.heap.size w (acc++(40::s.data.toList++32::dm [] (cq l)++[41])) e w':=by
 have rq:=hb.size;have hn:acc.length+s.size+(dm [] (cq l)).length+3<=3000000000:=by
  have e:s.data.toList.length=s.size:=rfl;simp only[Zg,Zm,Zn,e]at hn;omega
 have H0:=aa (SW.start ho rq);obtain⟨N,hN⟩:∃N,N=W0.heap.size:=⟨_,rfl⟩
 have OZ:XX (∀w2 o2,SW N w w2 o2 (acc++[40]++s.data.toList++[32])->Zb prog 284 #[o2,sl] w2 λe w'=>ft N w2 (acc++[40]++s.data.toList++[32]++dm [] (cq l)) e w'):=λw2 o2 h2=>by
  rw[hN]at h2⊢;refine Ud (hr.oth h2.kept) em hl (hb.trans h2.bel) h2.ob ?_ rJ;have:s.data.toList.length=s.size:=rfl;simp only[Zg,Zq];omega
 have aH:s.data.toList.length=s.size:=rfl;have HE:XX (acc++(40::s.data.toList++32::dm [] (cq l)++[41])=acc++[40]++s.data.toList++[32]++dm [] (cq l)++[41]):=by show _=_;simp
 obtain⟨Jv,hJ⟩:∃Jv,Jv=dm [] (cq l):=⟨_,rfl⟩
 obtain⟨R,hR⟩:∃R,R=acc++(40::s.data.toList++32::dm [] (cq l)++[41]):=⟨_,rfl⟩
 rw[<-hR]at HE⊢;rw[<-hJ]at OZ HE hn;rw[<-hN]at H0⊢;clear hr hl hb ho hN hR hJ rq;go_enter func283,ntmps283;go_wp2_with (at_builtin;refine kG rfl (.tmp 7) (.tmp 8) rfl N _ acc rfl ?h1 _ _ _ [40] rfl rfl ?h2 ?h3 ?h4 ?_)
 case h1=>exact H0.o.ob.alloc _
 case h2=>exact cX rfl _ _ rfl
 case h3=>simp;omega
 case h4=>have:=H0.o.sz;simp;omega
 intro v1 w1 cE bX;have H1:=aa ((H0.o.alloc _).grow cE bX);clear cE bX;go_wp2_with (at_builtin;refine Bb rfl (.tmp 10) (.tmp 11) rfl N _ (acc++[40]) rfl ?h1 s rfl ?h2 ?h3 ?_)
 case h1=>exact H1.o.ob
 case h2=>simp;omega
 case h3=>exact H1.o.sz
 intro v2 w2 dH BM;have H2:XX (SW N w w2 v2 (acc++[40]++s.data.toList)):=by
  have:=H1.o.grow dH BM;show SW _ _ _ _ _;simpa using this
 clear dH BM;go_wp2_with (at_builtin;refine kG rfl (.tmp 13) (.tmp 14) rfl N _ (acc++[40]++s.data.toList) rfl ?h1 _ _ _ [32] rfl rfl ?h2 ?h3 ?h4 ?_)
 case h1=>exact H2.o.ob.alloc _
 case h2=>exact cX rfl _ _ rfl
 case h3=>simp only[Zg,Zq];omega
 case h4=>have:=H2.o.sz;simp;omega
 intro v3 w3 bz aP;have H3:XX (SW N w w3 v3 (acc++[40]++s.data.toList++[32])):=by
  have:=(H2.o.alloc _).grow bz aP;show SW _ _ _ _ _;simpa using this
 have HC:=aa (OZ.o w3 v3 H3.o);clear bz aP;go_wp2_with fail;refine Zi HC.o ?_;rintro e w4 ⟨o4,rfl,h4⟩;have H4:=aa (H3.o.trans h4.o);clear h4;go_wp2_with (at_builtin;refine kG rfl (.tmp 19) (.tmp 20) rfl N _ (acc++[40]++s.data.toList++[32]++Jv) rfl ?h1 _ _ _ [41] rfl rfl ?h2 ?h3 ?h4 ?_)
 case h1=>exact H4.o.ob.alloc _
 case h2=>exact cX rfl _ _ rfl
 case h3=>simp only[Zg,Zq];omega
 case h4=>have:=H4.o.sz;simp;omega
 intro v5 w5 jC bK;have H5:XX (SW N w w5 v5 R):=by
  have:=(H4.o.alloc _).grow jC bK;show SW _ _ _ _ _;rw[HE.o];simpa using this
 clear jC bK;go_wp2;go_ret;exact⟨_,rfl,H5.o⟩
theorem PJ{x:Ze}(h:W.heap[b]?=Za (.cells #[x] t (0,0))):W.cell? ⟨b,0,Zd⟩=Za x:=by simp[Zx,h]
section
variable {L S N A J La:Zo} {W0 w:Zj} {out:Ze} {acc:O Zf}
theorem ag7(hb:Zc W0.heap.size W0 w)(ho:OB w W0.heap.size out acc)(hn:acc.length+(([64]:O Zf)).length<=3000000000):
 Zb prog 317 #[.agg #[],out] w λe w'=>ft W0.heap.size w (acc++([64]:O Zf)) e w':=by
 have H0:=aa (SW.start ho hb.size);obtain⟨M,hM⟩:∃M,M=W0.heap.size:=⟨_,rfl⟩
 rw[<-hM]at H0⊢;clear hb ho hM;go_enter func317,ntmps317;go_wp2_with (at_builtin;refine kG rfl (.tmp 5) (.tmp 6) rfl M _ (acc) rfl ?h1 _ _ _ [64] rfl rfl ?h2 ?h3 ?h4 ?_)
 case h1=>exact(H0.o.alloc _).ob.alloc _
 case h2=>exact cX (by simp) _ _ rfl
 case h3=>simp at hn⊢;omega
 case h4=>have:=H0.o.sz;simp;omega
 intro v1 w1 cE bX;have H1:XX (SW M w w1 v1 (acc++[64])):=by
  have:=((H0.o.alloc _).alloc _).grow cE bX;show SW _ _ _ _ _;simpa using this
 clear cE bX;go_wp2;go_ret;exact⟨_,rfl,by show SW _ _ _ _ _;simpa using H1.o⟩
theorem ah5(hb:Zc W0.heap.size W0 w)(ho:OB w W0.heap.size out acc)(hn:acc.length+(([42]:O Zf)).length<=3000000000):
 Zb prog 319 #[.agg #[],out] w λe w'=>ft W0.heap.size w (acc++([42]:O Zf)) e w':=by
 have H0:=aa (SW.start ho hb.size);obtain⟨M,hM⟩:∃M,M=W0.heap.size:=⟨_,rfl⟩
 rw[<-hM]at H0⊢;clear hb ho hM;go_enter func319,ntmps319;go_wp2_with (at_builtin;refine kG rfl (.tmp 5) (.tmp 6) rfl M _ (acc) rfl ?h1 _ _ _ [42] rfl rfl ?h2 ?h3 ?h4 ?_)
 case h1=>exact(H0.o.alloc _).ob.alloc _
 case h2=>exact cX (by simp) _ _ rfl
 case h3=>simp at hn⊢;omega
 case h4=>have:=H0.o.sz;simp;omega
 intro v1 w1 cE bX;have H1:XX (SW M w w1 v1 (acc++[42])):=by
  have:=((H0.o.alloc _).alloc _).grow cE bX;show SW _ _ _ _ _;simpa using this
 clear cE bX;go_wp2;go_ret;exact⟨_,rfl,by show SW _ _ _ _ _;simpa using H1.o⟩
theorem ahX(hb:Zc W0.heap.size W0 w)(ho:OB w W0.heap.size out acc)(hn:acc.length+(([91,42,93]:O Zf)).length<=3000000000):
 Zb prog 324 #[.agg #[],out] w λe w'=>ft W0.heap.size w (acc++([91,42,93]:O Zf)) e w':=by
 have H0:=aa (SW.start ho hb.size);obtain⟨M,hM⟩:∃M,M=W0.heap.size:=⟨_,rfl⟩
 rw[<-hM]at H0⊢;clear hb ho hM;go_enter func324,ntmps324;go_wp2_with (at_builtin;refine Bb rfl (.tmp 5) (.const (.string ⟨#[91,42,93]⟩)) rfl M _ acc rfl ?h1 ⟨#[91,42,93]⟩ rfl ?h2 ?h3 ?_)
 case h1=>exact(H0.o.alloc _).ob
 case h2=>exact Zu hn (by omega)
 case h3=>have:=H0.o.sz;simp;omega
 intro v1 w1 cE bX;have H1:=aa ((H0.o.alloc _).grow cE bX);clear cE bX;go_wp2;go_ret;exact⟨_,rfl,H1.o⟩
theorem ahg(hb:Zc W0.heap.size W0 w)(ho:OB w W0.heap.size out acc)(hn:acc.length+(([91,93]:O Zf)).length<=3000000000):
 Zb prog 325 #[.agg #[],out] w λe w'=>ft W0.heap.size w (acc++([91,93]:O Zf)) e w':=by
 have H0:=aa (SW.start ho hb.size);obtain⟨M,hM⟩:∃M,M=W0.heap.size:=⟨_,rfl⟩
 rw[<-hM]at H0⊢;clear hb ho hM;go_enter func325,ntmps325;go_wp2_with (at_builtin;refine Bb rfl (.tmp 5) (.const (.string ⟨#[91,93]⟩)) rfl M _ acc rfl ?h1 ⟨#[91,93]⟩ rfl ?h2 ?h3 ?_)
 case h1=>exact(H0.o.alloc _).ob
 case h2=>exact Zu hn (by omega)
 case h3=>have:=H0.o.sz;simp;omega
 intro v1 w1 cE bX;have H1:=aa ((H0.o.alloc _).grow cE bX);clear cE bX;go_wp2;go_ret;exact⟨_,rfl,H1.o⟩
theorem ahL(s:Zk)(hS:fw W0 L S N A J La)(hs:s.size<=1000)(hq:(dt s.data.toList).length<=600000)(hb:Zc W0.heap.size W0 w)(ho:OB w W0.heap.size out acc)(hn:acc.length+(dt s.data.toList).length<=3000000000):
 Zb prog 314 #[.string s,out] w λe w'=>ft W0.heap.size w (acc++dt s.data.toList) e w':=by
 have H0:=aa (SW.start ho hb.size);have HC:=aa (Np s w W0.heap.size out acc (hS.below hb) hs hb.size ho hn hq);obtain⟨M,hM⟩:∃M,M=W0.heap.size:=⟨_,rfl⟩
 rw[<-hM]at H0 HC⊢;clear hb ho hM;go_enter func314,ntmps314;go_wp2_with fail;refine Zi HC.o ?_;rintro e w1 ⟨o1,rfl,h1⟩;go_wp2;go_ret;exact⟨_,rfl,h1.o⟩
theorem ahr(s:Zk)(hS:fw W0 L S N A J La)(hs:s.size<=1000)(hq:(dt s.data.toList).length<=600000)(hb:Zc W0.heap.size W0 w)(ho:OB w W0.heap.size out acc)(hn:acc.length+(46::dt s.data.toList).length<=3000000000):
 Zb prog 318 #[.string s,out] w λe w'=>ft W0.heap.size w (acc++46::dt s.data.toList) e w':=by
 have H0:=aa (SW.start ho hb.size);have rN:(46::dt s.data.toList).length=(dt s.data.toList).length+1:=rfl;have HC:XX (∀w2 o2,SW W0.heap.size w w2 o2 (acc++[46])->Zb prog 315 #[o2,.string s] w2 λe w'=>ft W0.heap.size w2 (acc++[46]++dt s.data.toList) e w'):=λw2 o2 h2=>Np s w2 W0.heap.size o2 (acc++[46]) (hS.below (hb.trans h2.bel)) hs h2.sz h2.ob (by rw[Zg,Zq];omega) hq
 have HE:XX (acc++46::dt s.data.toList=acc++[46]++dt s.data.toList):=by show _=_;simp
 rw[HE.o];obtain⟨Q,hQ⟩:∃Q,Q=dt s.data.toList:=⟨_,rfl⟩
 rw[<-hQ]at hn rN HC⊢;clear hS hs hq hQ HE;obtain⟨M,hM⟩:∃M,M=W0.heap.size:=⟨_,rfl⟩
 rw[<-hM]at H0 HC⊢;clear hb ho hM;go_enter func318,ntmps318;go_wp2_with (at_builtin;refine kG rfl (.tmp 5) (.tmp 6) rfl M _ (acc) rfl ?h1 _ _ _ [46] rfl rfl ?h2 ?h3 ?h4 ?_)
 case h1=>exact H0.o.ob.alloc _
 case h2=>exact cX (by simp) _ _ rfl
 case h3=>rw[rN]at hn;simp;omega
 case h4=>have:=H0.o.sz;simp;omega
 intro v1 w1 cE bX;have H1:XX (SW M w w1 v1 (acc++[46])):=by
  have:=(H0.o.alloc _).grow cE bX;show SW _ _ _ _ _;simpa using this
 clear cE bX;go_wp2_with fail;refine Zi (HC.o _ _ H1.o) ?_;rintro e w2 ⟨o2,rfl,h2⟩;have H2:=aa (H1.o.trans h2.o);clear h2;go_wp2;go_ret;exact⟨_,rfl,H2.o⟩
theorem aho(x:VT 12)(y:Ze)(hS:fw W0 L S N A J La)(hy:eI y){AA:Zh->Prop}(cH:db 12 W0 AA x y)(be:fV 12 x)(hq:(aF 12 x).length<=600000)(hb:Zc W0.heap.size W0 w)(ho:OB w W0.heap.size out acc)(hn:acc.length+(96::aF 12 x++[96]).length<=3000000000):
 Zb prog 316 #[.agg #[y],out] w λe w'=>ft W0.heap.size w (acc++(96::aF 12 x++[96])) e w':=by
 have H0:=aa (SW.start ho hb.size);have uo:acc.length+(aF 12 x).length+2<=3000000000:=by simp only[Zg,Zm,Zn]at hn;omega
 have HC:XX (∀w2,Zc W0.heap.size W0 w2->Zb prog 12 #[y] w2 λe w'=>e=.returned (.string (bs (aF 12 x)))/\Zc w2.heap.size w2 w'):=λw2 h2=>Ug 12 x y w2 ((db.keep2 12 (db.keep 12 (db.keep2 12 cH) (λi hi _=>⟨h2.block i hi,hi⟩)))) be (hS.below h2).pow hq
 have bB:=aa hb;have HE:XX (acc++(96::aF 12 x++[96])=acc++[96]++aF 12 x++[96]):=by show _=_;simp
 rw[HE.o];obtain⟨Q,hQ⟩:∃Q,Q=aF 12 x:=⟨_,rfl⟩
 rw[<-hQ]at uo HC⊢;clear hS be hq hQ HE cH hn;obtain⟨M,hM⟩:∃M,M=W0.heap.size:=⟨_,rfl⟩
 rw[<-hM]at H0 HC bB⊢;clear hb ho hM;go_enter func316,ntmps316;have c0:(w.alloc (.cells #[y] 286)).heap[w.heap.size]?=Za (.cells #[y] 286 (0,0)):=aE rfl;have dN:=aa c0;clear c0;rcases hy with rfl|⟨ty,vy,rfl⟩
 all_goals
  go_wp2_with (at_builtin;refine kG rfl (.tmp 5) (.tmp 6) rfl M _ (acc) rfl ?h1 _ _ _ [96] rfl rfl ?h2 ?h3 ?h4 ?_)
  case h1=>exact(H0.o.alloc _).ob.alloc _
  case h2=>exact cX (by simp) _ _ rfl
  case h3=>simp;omega
  case h4=>have:=H0.o.sz;simp;omega
  intro v1 w1 cE bX;have H1:XX (SW M w w1 v1 (acc++[96])):=by
   have:=((H0.o.alloc _).alloc _).grow cE bX;show SW _ _ _ _ _;simpa using this
  have d0:=kV ((Zt _ _ _).alloc _) ((H0.o.alloc _).ob.alloc _) bX w.heap.size _ dN.o (by simp) (by intro c fz e;injection e with _ e2;exact absurd e2 (by decide));have e0:=PJ d0;clear cE bX d0;go_wp2_with fail;refine Zi (HC.o w1 (bB.o.trans H1.o.bel)) ?_;rintro e w2 ⟨rfl,ah⟩;have H2:=aa (H1.o.below ah);clear ah;go_wp2_with (at_builtin;refine Bb rfl (.tmp 8) (.tmp 11) rfl M _ (acc++[96]) rfl ?h1 (bs Q) rfl ?h2 ?h3 ?_)
  case h1=>exact H2.o.ob
  case h2=>rw[eO];simp;omega
  case h3=>exact H2.o.sz
  intro v3 w3 bz aP;have H3:XX (SW M w w3 v3 (acc++[96]++Q)):=by
   have:=H2.o.grow bz aP;show SW _ _ _ _ _;simpa[bs]using this
  clear bz aP;go_wp2_with (at_builtin;refine kG rfl (.tmp 13) (.tmp 14) rfl M _ (acc++[96]++Q) rfl ?h1 _ _ _ [96] rfl rfl ?h2 ?h3 ?h4 ?_)
  case h1=>exact H3.o.ob.alloc _
  case h2=>exact cX (by simp) _ _ rfl
  case h3=>simp;omega
  case h4=>have:=H3.o.sz;simp;omega
  intro v4 w4 aN oW;have H4:XX (SW M w w4 v4 (acc++[96]++Q++[96])):=by
   have:=(H3.o.alloc _).grow aN oW;show SW _ _ _ _ _;simpa using this
  clear aN oW;go_wp2;go_ret;exact⟨_,rfl,by show SW _ _ _ _ _;simpa using H4.o⟩
end
section
variable {L S N A J La:Zo} {W0 w:Zj} {out:Ze} {acc:O Zf}
theorem ahh(n:Int)(hn0:-10000000<=n/\n<=10000000)(hS:fw W0 L S N A J La)(hb:Zc W0.heap.size W0 w)(ho:OB w W0.heap.size out acc)(hn:acc.length+(91::gK n++[93]).length<=3000000000):
 Zb prog 321 #[.int .i64 n,out] w λe w'=>ft W0.heap.size w (acc++(91::gK n++[93])) e w':=by
 have H0:=aa (SW.start ho hb.size);have bB:=aa hb;have HO:=aa ho;have hn:acc.length+(gK n).length+2<=3000000000:=by simp only[Zg,Zm,Zn]at hn;omega
 have HC:XX (∀w2 o2,SW W0.heap.size w w2 o2 (acc++[91])->Zb prog 74 #[o2,.int .i64 n,.int .i64 10] w2 λe w'=>ft W0.heap.size w2 (acc++[91]++gK n) e w'):=λw2 o2 h2=>Ni n w2 _ o2 (acc++[91]) W0 hS rfl (hb.trans h2.bel) hn0 h2.ob (by simp;omega)
 rw[show acc++(91::gK n++[93])=acc++[91]++gK n++[93] by simp];obtain⟨Q,hQ⟩:∃Q,Q=gK n:=⟨_,rfl⟩
 rw[<-hQ]at hn HC⊢;clear hS hQ;obtain⟨M,hM⟩:∃M,M=W0.heap.size:=⟨_,rfl⟩
 rw[<-hM]at bB HO H0 HC⊢;clear hb ho hM;go_enter func321,ntmps321;go_wp2_with (at_builtin;refine kG rfl (.tmp 5) (.tmp 6) rfl M _ (acc) rfl ?h1 _ _ _ [91] rfl rfl ?h2 ?h3 ?h4 ?_)
 case h1=>exact H0.o.ob.alloc _
 case h2=>exact cX (by simp) _ _ rfl
 case h3=>simp;omega
 case h4=>have:=H0.o.sz;simp;omega
 intro v1 w1 cE bX;have H1:XX (SW M w w1 v1 (acc++[91])):=by
  have:=(H0.o.alloc _).grow cE bX;show SW _ _ _ _ _;simpa using this
 clear cE bX;go_wp2_with fail;refine Zi (HC.o _ _ H1.o) ?_;rintro e w2 ⟨o2,rfl,h2⟩;have H2:=aa (H1.o.trans h2.o);clear h2;go_wp2_with (at_builtin;refine kG rfl (.tmp 11) (.tmp 12) rfl M _ (acc++[91]++Q) rfl ?h1 _ _ _ [93] rfl rfl ?h2 ?h3 ?h4 ?_)
 case h1=>exact H2.o.ob.alloc _
 case h2=>exact cX (by simp) _ _ rfl
 case h3=>simp only[Zg,Zm,Zn];omega
 case h4=>have:=H2.o.sz;simp;omega
 intro v3 w3 bz aP;have H3:XX (SW M w w3 v3 (acc++[91]++Q++[93])):=by
  have:=(H2.o.alloc _).grow bz aP;show SW _ _ _ _ _;simpa using this
 clear bz aP;go_wp2;go_ret;exact⟨_,rfl,H3.o⟩
theorem ag4(i:Bool)(n:Int)(hn0:-10000000<=n/\n<=10000000)(hS:fw W0 L S N A J La)(hb:Zc W0.heap.size W0 w)(ho:OB w W0.heap.size out acc)(hn:acc.length+(fC i n).length<=3000000000):
 Zb prog 323 #[out,.agg #[.bool i,.int .i64 n]] w λe w'=>ft W0.heap.size w (acc++(fC i n)) e w':=by
 have H0:=aa (SW.start ho hb.size);have bB:=aa hb;have HO:=aa ho;have HC:XX (∀w2,SW W0.heap.size w w2 out acc->Zb prog 74 #[out,.int .i64 n,.int .i64 10] w2 λe w'=>ft W0.heap.size w2 (acc++gK n) e w'):=λw2 h2=>Ni n w2 _ out acc W0 hS rfl (hb.trans h2.bel) hn0 h2.ob (by omega)
 unfold fC;clear hS;obtain⟨M,hM⟩:∃M,M=W0.heap.size:=⟨_,rfl⟩
 rw[<-hM]at bB HO H0 HC⊢;clear hb ho hM;cases i
 .rw[if_neg (by simp),Zy];go_enter func323,ntmps323;go_wp2;go_ret;exact⟨_,rfl,H0.o.alloc _⟩
 .rw[if_pos rfl];go_enter func323,ntmps323;go_wp2_with fail;refine Zi (HC.o _ (H0.o.alloc _)) ?_;rintro e w2 ⟨o2,rfl,h2⟩;have H2:=aa ((H0.o.alloc _).trans h2.o);clear h2;go_wp2;go_ret;exact⟨_,rfl,H2.o⟩
theorem Kt{x0 x1 x2 x3 x4:Ze}(h:W.heap[b]?=Za (.cells #[x0,x1,x2,x3,x4] 297 (0,0))):W.cell? ⟨b,0,Zd⟩=Za x0/\W.cell? ⟨b,1,Zd⟩=Za x1/\W.cell? ⟨b,2,Zd⟩=Za x2/\W.cell? ⟨b,3,Zd⟩=Za x3/\W.cell? ⟨b,4,Zd⟩=Za x4:=by
 refine⟨?_,?_,?_,?_,?_⟩ <;> simp[Zx,h]
theorem ahS(i0 i1:Bool)(n0 n1 n2:Int)(Ce:DP n0 n1 n2)(hS:fw W0 L S N A J La)(hb:Zc W0.heap.size W0 w)(ho:OB w W0.heap.size out acc)(hn:acc.length+(91::fC i0 n0++58::fC i1 n1++58::gK n2++[93]).length<=3000000000):
 Zb prog 322 #[.agg #[.bool i0,.int .i64 n0,.bool i1,.int .i64 n1,.int .i64 n2],out] w λe w'=>ft W0.heap.size w (acc++(91::fC i0 n0++58::fC i1 n1++58::gK n2++[93])) e w':=by
 have H0:=aa (SW.start ho hb.size);have bB:=aa hb;have HO:=aa ho;have hn:acc.length+(fC i0 n0).length+(fC i1 n1).length+(gK n2).length+4<=3000000000:=by simp only[Zg,Zm,Zn]at hn;omega
 have mp:XX (∀(i:Bool) (n:Int) (ac:O Zf),(-10000000<=n/\n<=10000000)->ac.length+(fC i n).length<=3000000000->∀w2 o2,SW W0.heap.size w w2 o2 ac->Zb prog 323 #[o2,.agg #[.bool i,.int .i64 n]] w2 λe w'=>ft W0.heap.size w2 (ac++fC i n) e w'):=λi n ac h1 h3 w2 o2 h2=>ag4 i n h1 hS (hb.trans h2.bel) h2.ob h3
 have lc:XX (∀(ac:O Zf),ac.length<=3000000000->∀w2 o2,SW W0.heap.size w w2 o2 ac->Zb prog 74 #[o2,.int .i64 n2,.int .i64 10] w2 λe w'=>ft W0.heap.size w2 (ac++gK n2) e w'):=λac h3 w2 o2 h2=>Ni n2 w2 _ o2 ac W0 hS rfl (hb.trans h2.bel) Ce.2.2 h2.ob h3
 rw[show acc++(91::fC i0 n0++58::fC i1 n1++58::gK n2++[93])=acc++[91]++fC i0 n0++[58]++fC i1 n1++[58]++gK n2++[93] by simp];have HA:=aa (mp.o i0 n0 (acc++[91]) Ce.1 (by simp;omega));have aY:=aa (mp.o i1 n1 (acc++[91]++fC i0 n0++[58]) Ce.2.1 (by simp;omega));have HC:=aa (lc.o (acc++[91]++fC i0 n0++[58]++fC i1 n1++[58]) (by simp;omega));obtain⟨Q0,Ep⟩:∃Q,Q=fC i0 n0:=⟨_,rfl⟩
 obtain⟨Q1,Hj⟩:∃Q,Q=fC i1 n1:=⟨_,rfl⟩
 obtain⟨Q2,Li⟩:∃Q,Q=gK n2:=⟨_,rfl⟩
 rw[<-Ep,<-Hj,<-Li]at hn⊢;rw[<-Ep]at HA;rw[<-Ep,<-Hj]at aY;rw[<-Ep,<-Hj,<-Li]at HC;clear hS Ep Hj Li mp lc;obtain⟨M,hM⟩:∃M,M=W0.heap.size:=⟨_,rfl⟩
 rw[<-hM]at bB HO H0 HA aY HC⊢;clear hb ho hM;go_enter func322,ntmps322;have dN:XX ((w.alloc (.cells #[.bool i0,.int .i64 n0,.bool i1,.int .i64 n1,.int .i64 n2] 297)).heap[w.heap.size]?=Za (.cells #[.bool i0,.int .i64 n0,.bool i1,.int .i64 n1,.int .i64 n2] 297 (0,0))):=aE rfl;have sq:XX (∀c fz,Obj.cells #[.bool i0,.int .i64 n0,.bool i1,.int .i64 n1,.int .i64 n2] 297 (0,0)≠.cells c 5 fz):=λc fz e=>by injection e with _ e2;exact absurd e2 (by decide)
 go_wp2_with (at_builtin;refine kG rfl (.tmp 5) (.tmp 6) rfl M _ (acc) rfl ?h1 _ _ _ [91] rfl rfl ?h2 ?h3 ?h4 ?_)
 case h1=>exact(H0.o.alloc _).ob.alloc _
 case h2=>exact cX (by simp) _ _ rfl
 case h3=>simp;omega
 case h4=>have:=H0.o.sz;simp;omega
 intro v1 w1 cE bX;have H1:XX (SW M w w1 v1 (acc++[91])):=by
  have:=((H0.o.alloc _).alloc _).grow cE bX;show SW _ _ _ _ _;simpa using this
 have D1:=aa (kV ((Zt _ _ _).alloc _) ((H0.o.alloc _).ob.alloc _) bX w.heap.size _ dN.o (by simp) sq.o);clear cE bX;obtain⟨e0,e1,e2,e3,e4⟩:=Kt D1.o;go_wp2_with fail;refine Zi (HA.o _ _ H1.o) ?_;rintro e w2 ⟨o2,rfl,h2⟩;have H2:=aa (H1.o.trans h2.o);have D2:=aa (h2.o.kept w.heap.size _ D1.o (by simp) sq.o);clear h2 e0 e1 e2 e3 e4;go_wp2_with (at_builtin;refine kG rfl (.tmp 11) (.tmp 12) rfl M _ (acc++[91]++Q0) rfl ?h1 _ _ _ [58] rfl rfl ?h2 ?h3 ?h4 ?_)
 case h1=>exact H2.o.ob.alloc _
 case h2=>exact cX (by simp) _ _ rfl
 case h3=>simp only[Zg,Zm,Zn];omega
 case h4=>have:=H2.o.sz;simp;omega
 intro v3 w3 bz aP;have H3:XX (SW M w w3 v3 (acc++[91]++Q0++[58])):=by
  have:=(H2.o.alloc _).grow bz aP;show SW _ _ _ _ _;simpa using this
 have D3:=aa (kV ((Zt _ _ _).alloc _) (H2.o.ob.alloc _) aP w.heap.size _ D2.o (by simp) sq.o);clear bz aP;obtain⟨e0,e1,e2,e3,e4⟩:=Kt D3.o;go_wp2_with fail;refine Zi (aY.o _ _ H3.o) ?_;rintro e w4 ⟨o4,rfl,h4⟩;have H4:=aa (H3.o.trans h4.o);have D4:=aa (h4.o.kept w.heap.size _ D3.o (by simp) sq.o);clear h4 e0 e1 e2 e3 e4;go_wp2_with (at_builtin;refine kG rfl (.tmp 17) (.tmp 18) rfl M _ (acc++[91]++Q0++[58]++Q1) rfl ?h1 _ _ _ [58] rfl rfl ?h2 ?h3 ?h4 ?_)
 case h1=>exact H4.o.ob.alloc _
 case h2=>exact cX (by simp) _ _ rfl
 case h3=>simp only[Zg,Zm,Zn];omega
 case h4=>have:=H4.o.sz;simp;omega
 intro v5 w5 jC bK;have H5:XX (SW M w w5 v5 (acc++[91]++Q0++[58]++Q1++[58])):=by
  have:=(H4.o.alloc _).grow jC bK;show SW _ _ _ _ _;simpa using this
 have D5:=aa (kV ((Zt _ _ _).alloc _) (H4.o.ob.alloc _) bK w.heap.size _ D4.o (by simp) sq.o);clear jC bK;obtain⟨e0,e1,e2,e3,e4⟩:=Kt D5.o;go_wp2_with fail;refine Zi (HC.o _ _ H5.o) ?_;rintro e w6 ⟨o6,rfl,h6⟩;have H6:=aa (H5.o.trans h6.o);clear h6 e0 e1 e2 e3 e4;go_wp2_with (at_builtin;refine kG rfl (.tmp 24) (.tmp 25) rfl M _ (acc++[91]++Q0++[58]++Q1++[58]++Q2) rfl ?h1 _ _ _ [93] rfl rfl ?h2 ?h3 ?h4 ?_)
 case h1=>exact H6.o.ob.alloc _
 case h2=>exact cX (by simp) _ _ rfl
 case h3=>simp only[Zg,Zm,Zn];omega
 case h4=>have:=H6.o.sz;simp;omega
 intro v7 w7 BU rB;have H7:XX (SW M w w7 v7 (acc++[91]++Q0++[58]++Q1++[58]++Q2++[93])):=by
  have:=(H6.o.alloc _).grow BU rB;show SW _ _ _ _ _;simpa using this
 clear BU rB;go_wp2;go_ret;exact⟨_,rfl,H7.o⟩
end
theorem FC(xs:O Ze)(n:Zh)(hx:n=xs.length)(hl:n<=1000)(h:W.heap.size=g):ao (W.alloc (.cells xs.toArray 36)) 36 (.slice (Za ⟨g,0,Zd⟩) n n) xs:=by
 subst hx;refine⟨by omega,.inr ⟨g,xs.length,xs.toArray,rfl,ZD _,aE h,Zw _,by unfold maxLen;omega,by simp,by simp⟩⟩
def re(W0:Zj)(l:O Nd)(ps:O Ze):Prop:=ps.length=l.length/\∀(k:Zh) (y:Nd),l[k]?=Za y->∃t v,ps[k]?=Za (.iface t v)/\t∈ol/\yN W0 y t v
theorem re.one(h:re W0 [y] ps):∃t v,ps=[.iface t v]/\t∈ol/\yN W0 y t v:=by
 obtain⟨t,v,h1,h2,h3⟩:=h.2 0 y rfl;refine⟨t,v,?_,h2,h3⟩
 match ps,h.1,h1 with
 |[p],_,h1=>simp at h1;rw[h1]
section
variable {L S N A J La:Zo} {W0 w:Zj} {out:Ze} {acc:O Zf}
theorem ahu(hk:re W0 l [p])(hb:Zc W0.heap.size W0 w)(ho:OB w W0.heap.size out acc)(hn:acc.length+(40::(⟨#[33]⟩:Zk).data.toList++32::dm [] (cq l)++[41]).length<=3000000000):
 Zb prog 308 #[.agg #[p],out] w λe w'=>ft W0.heap.size w (acc++(40::(⟨#[33]⟩:Zk).data.toList++32::dm [] (cq l)++[41])) e w':=by
 have H0:=aa (SW.start ho hb.size);obtain⟨t,v,rfl⟩:∃t v,p=.iface t v:=by
  obtain⟨t,v,h1,_⟩:=hk.2 0 (l[0]'(by have:=hk.1;simp at this;omega)) (Zp _);simp at h1;exact⟨t,v,h1⟩
 have lK:l.length<=1000:=by have:=hk.1;simp at this;omega
 have HC:XX (Zb prog 283 #[out,.string ⟨#[33]⟩,.slice (Za ⟨w.heap.size+1,0,Zd⟩) 1 1] ((w.alloc (.cells #[.iface t v] 244)).alloc (.cells #[.iface t v] 36)) λe w'=>ft W0.heap.size ((w.alloc (.cells #[.iface t v] 244)).alloc (.cells #[.iface t v] 36)) (acc++(40::(⟨#[33]⟩:Zk).data.toList++32::dm [] (cq l)++[41])) e w'):=by
  have jA:Zc w.heap.size w ((w.alloc (.cells #[.iface t v] 244)).alloc (.cells #[.iface t v] 36)):=((Zr _ w).alloc (Zw _) _).alloc (by simp) _;exact Fy ⟨#[33]⟩ (FC [.iface t v] 1 rfl (by omega) (by simp)) hk.1 hk.2 (hb.trans (jA.mono hb.size)) (Aa ho jA) (by decide) hn lK
 obtain⟨R,hR⟩:∃R,R=acc++(40::(⟨#[33]⟩:Zk).data.toList++32::dm [] (cq l)++[41]):=⟨_,rfl⟩
 rw[<-hR]at HC⊢;clear hb ho hR hn hk;go_enter func308,ntmps308;go_wp2_with fail;refine Zi HC.o ?_;rintro e w2 ⟨o2,rfl,h2⟩;have H2:=aa (((H0.o.alloc _).alloc _).trans h2.o);clear h2;go_wp2;go_ret;exact⟨_,rfl,H2.o⟩
theorem aha(hk:re W0 l [p])(hb:Zc W0.heap.size W0 w)(ho:OB w W0.heap.size out acc)(hn:acc.length+(40::(⟨#[38]⟩:Zk).data.toList++32::dm [] (cq l)++[41]).length<=3000000000):
 Zb prog 306 #[.agg #[p],out] w λe w'=>ft W0.heap.size w (acc++(40::(⟨#[38]⟩:Zk).data.toList++32::dm [] (cq l)++[41])) e w':=by
 have H0:=aa (SW.start ho hb.size);obtain⟨t,v,rfl⟩:∃t v,p=.iface t v:=by
  obtain⟨t,v,h1,_⟩:=hk.2 0 (l[0]'(by have:=hk.1;simp at this;omega)) (Zp _);simp at h1;exact⟨t,v,h1⟩
 have lK:l.length<=1000:=by have:=hk.1;simp at this;omega
 have HC:XX (Zb prog 283 #[out,.string ⟨#[38]⟩,.slice (Za ⟨w.heap.size+1,0,Zd⟩) 1 1] ((w.alloc (.cells #[.iface t v] 179)).alloc (.cells #[.iface t v] 36)) λe w'=>ft W0.heap.size ((w.alloc (.cells #[.iface t v] 179)).alloc (.cells #[.iface t v] 36)) (acc++(40::(⟨#[38]⟩:Zk).data.toList++32::dm [] (cq l)++[41])) e w'):=by
  have jA:Zc w.heap.size w ((w.alloc (.cells #[.iface t v] 179)).alloc (.cells #[.iface t v] 36)):=((Zr _ w).alloc (Zw _) _).alloc (by simp) _;exact Fy ⟨#[38]⟩ (FC [.iface t v] 1 rfl (by omega) (by simp)) hk.1 hk.2 (hb.trans (jA.mono hb.size)) (Aa ho jA) (by decide) hn lK
 obtain⟨R,hR⟩:∃R,R=acc++(40::(⟨#[38]⟩:Zk).data.toList++32::dm [] (cq l)++[41]):=⟨_,rfl⟩
 rw[<-hR]at HC⊢;clear hb ho hR hn hk;go_enter func306,ntmps306;go_wp2_with fail;refine Zi HC.o ?_;rintro e w2 ⟨o2,rfl,h2⟩;have H2:=aa (((H0.o.alloc _).alloc _).trans h2.o);clear h2;go_wp2;go_ret;exact⟨_,rfl,H2.o⟩
theorem ahG{q:Ze}(op:Zk)(fF:op.size<=1000)(hk:re W0 l [p,q])(hb:Zc W0.heap.size W0 w)(ho:OB w W0.heap.size out acc)(hn:acc.length+(40::op.data.toList++32::dm [] (cq l)++[41]).length<=3000000000):
 Zb prog 305 #[.agg #[.string op,p,q],out] w λe w'=>ft W0.heap.size w (acc++(40::op.data.toList++32::dm [] (cq l)++[41])) e w':=by
 have H0:=aa (SW.start ho hb.size);have rH:l.length=2:=by have:=hk.1;simp at this;omega
 obtain⟨t,v,rfl⟩:∃t v,p=.iface t v:=by
  obtain⟨t,v,h1,_⟩:=hk.2 0 (l[0]'(by omega)) (Zp _);simp at h1;exact⟨t,v,h1⟩
 obtain⟨t',v',rfl⟩:∃t v,q=.iface t v:=by
  obtain⟨t,v,h1,_⟩:=hk.2 1 (l[1]'(by omega)) (Zp _);simp at h1;exact⟨t,v,h1⟩
 have HC:XX (Zb prog 283 #[out,.string op,.slice (Za ⟨w.heap.size+1,0,Zd⟩) 2 2] ((w.alloc (.cells #[.string op,.iface t v,.iface t' v'] 173)).alloc (.cells #[.iface t v,.iface t' v'] 36)) λe w'=>ft W0.heap.size ((w.alloc (.cells #[.string op,.iface t v,.iface t' v'] 173)).alloc (.cells #[.iface t v,.iface t' v'] 36)) (acc++(40::op.data.toList++32::dm [] (cq l)++[41])) e w'):=by
  have jA:Zc w.heap.size w ((w.alloc (.cells #[.string op,.iface t v,.iface t' v'] 173)).alloc (.cells #[.iface t v,.iface t' v'] 36)):=((Zr _ w).alloc (Zw _) _).alloc (by simp) _;exact Fy op (FC [.iface t v,.iface t' v'] 2 rfl (by omega) (by simp)) hk.1 hk.2 (hb.trans (jA.mono hb.size)) (Aa ho jA) fF hn (by omega)
 obtain⟨R,hR⟩:∃R,R=acc++(40::op.data.toList++32::dm [] (cq l)++[41]):=⟨_,rfl⟩
 rw[<-hR]at HC⊢;clear hb ho hR hn hk;go_enter func305,ntmps305;go_wp2_with fail;refine Zi HC.o ?_;rintro e w2 ⟨o2,rfl,h2⟩;have H2:=aa (((H0.o.alloc _).alloc _).trans h2.o);clear h2;go_wp2;go_ret;exact⟨_,rfl,H2.o⟩
theorem ag5{c a:Zh}(s:Zk)(hs:s.size<=1000)(hc:W0.heap[c]?=Za (.cells #[.string s,.int .i64 a,sl] 119 (0,0)))(hr:ao W0 36 sl ps)(lK:l.length<=1000)(hk:re W0 l ps)(hb:Zc W0.heap.size W0 w)(ho:OB w W0.heap.size out acc)(hn:acc.length+(40::s.data.toList++32::dm [] (cq l)++[41]).length<=3000000000):
 Zb prog 282 #[.pointer (Za ⟨c,0,Zd⟩),out] w λe w'=>ft W0.heap.size w (acc++(40::s.data.toList++32::dm [] (cq l)++[41])) e w':=by
 have H0:=aa (SW.start ho hb.size);have fE:=(hb.block _ (al hc)).trans hc;have c0:w.cell? ⟨c,0,Zd⟩=Za (.string s):=by simp[Zx,fE]
 have c2:w.cell? ⟨c,2,Zd⟩=Za sl:=by simp[Zx,fE]
 have HC:XX (Zb prog 283 #[out,.string s,sl] w.drew λe w'=>ft W0.heap.size w.drew (acc++(40::s.data.toList++32::dm [] (cq l)++[41])) e w'):=
  Fy s (hr.same (λk ek=>hb.block k (hr.lt ek))) hk.1 hk.2 hb.drew ho hs hn lK
 obtain⟨R,hR⟩:∃R,R=acc++(40::s.data.toList++32::dm [] (cq l)++[41]):=⟨_,rfl⟩
 rw[<-hR]at HC⊢;clear hb ho hR hn hk hc hr fE;go_enter func282,ntmps282;go_wp2_with fail
 go_region_with (go_at_call 283;refine Zi HC.o ?_;rintro e w2 ⟨o2,rfl,h2⟩)
 all_goals
  go_wp2_with fail;go_ret;exact⟨_,rfl,h2.o.ob,(Zr _ w).drew.trans h2.o.bel,h2.o.sz,λk o hk=>h2.o.kept k o hk⟩
end
section
variable {L S N A J La:Zo} {W0 w:Zj} {out:Ze} {acc:O Zf}
theorem ahm(hr:ao W0 36 sl ps)(lK:l.length<=1000)(hk:re W0 l ps)(hb:Zc W0.heap.size W0 w)(ho:OB w W0.heap.size out acc)(hn:acc.length+(91::dm [] (cq l)++[93]).length<=3000000000):
 Zb prog 320 #[sl,out] w λe w'=>ft W0.heap.size w (acc++(91::dm [] (cq l)++[93])) e w':=by
 have H0:=aa (SW.start ho hb.size);have hn:acc.length+(dm [] (cq l)).length+2<=3000000000:=by simp only[Zg,Zm,Zn]at hn;omega
 have HC:XX (∀w2 o2,SW W0.heap.size w w2 o2 (acc++[91])->Zb prog 284 #[o2,sl] w2 λe w'=>ft W0.heap.size w2 (acc++[91]++dm [] (cq l)) e w'):=λw2 o2 h2=>by
  have ah:=hb.trans h2.bel;exact Ud (hr.same (λk ek=>ah.block k (hr.lt ek))) hk.1 hk.2 ah h2.ob (by simp;omega) lK
 rw[show acc++(91::dm [] (cq l)++[93])=acc++[91]++dm [] (cq l)++[93] by simp];obtain⟨Q,hQ⟩:∃Q,Q=dm [] (cq l):=⟨_,rfl⟩
 rw[<-hQ]at hn HC⊢;obtain⟨M,hM⟩:∃M,M=W0.heap.size:=⟨_,rfl⟩
 rw[<-hM]at H0 HC⊢;clear hQ hr hk hb ho hM;go_enter func320,ntmps320;go_wp2_with (at_builtin;refine kG rfl (.tmp 5) (.tmp 6) rfl M _ (acc) rfl ?h1 _ _ _ [91] rfl rfl ?h2 ?h3 ?h4 ?_)
 case h1=>exact H0.o.ob.alloc _
 case h2=>exact cX (by simp) _ _ rfl
 case h3=>simp;omega
 case h4=>have:=H0.o.sz;simp;omega
 intro v1 w1 cE bX;have H1:XX (SW M w w1 v1 (acc++[91])):=by
  have:=(H0.o.alloc _).grow cE bX;show SW _ _ _ _ _;simpa using this
 clear cE bX;go_wp2_with fail;refine Zi (HC.o _ _ H1.o) ?_;rintro e w2 ⟨o2,rfl,h2⟩;have H2:=aa (H1.o.trans h2.o);clear h2;go_wp2_with (at_builtin;refine kG rfl (.tmp 11) (.tmp 12) rfl M _ (acc++[91]++Q) rfl ?h1 _ _ _ [93] rfl rfl ?h2 ?h3 ?h4 ?_)
 case h1=>exact H2.o.ob.alloc _
 case h2=>exact cX (by simp) _ _ rfl
 case h3=>simp;omega
 case h4=>have:=H2.o.sz;simp;omega
 intro v3 w3 bz aP;have H3:XX (SW M w w3 v3 (acc++[91]++Q++[93])):=by
  have:=(H2.o.alloc _).grow bz aP;show SW _ _ _ _ _;simpa using this
 clear bz aP;go_wp2;go_ret;exact⟨_,rfl,H3.o⟩
theorem ahb(hk:re W0 [y] [p])(hb:Zc W0.heap.size W0 w)(ho:OB w W0.heap.size out acc)(hn:acc.length+([91,63,32]++dm [] (cq [y])++[93]).length<=3000000000):
 Zb prog 326 #[.agg #[p],out] w λe w'=>ft W0.heap.size w (acc++([91,63,32]++dm [] (cq [y])++[93])) e w':=by
 have H0:=aa (SW.start ho hb.size);obtain⟨t,v,hp,mh,s9⟩:=hk.one;injection hp with hp _;subst hp;have hJ:dm [] (cq [y])=gZ y:=by rw[cq,cq,dm];rfl
 rw[hJ]at hn⊢;have hn:acc.length+(gZ y).length+4<=3000000000:=by simp only[Zg,Zm,Zn]at hn;omega
 have HC:XX (∀w2 o2,SW W0.heap.size w w2 o2 (acc++[91,63,32])->Zb prog (xS t) #[v,o2] w2 λe w'=>ft W0.heap.size w2 (acc++[91,63,32]++gZ y) e w'):=λw2 o2 h2=>s9 w2 o2 _ (hb.trans h2.bel) h2.ob (by simp;omega)
 have sm:=aa (Iz mh v);have zB:=λW=>(sm.o W).1
 have o9:=(sm.o w).2;rw[show acc++([91,63,32]++gZ y++[93])=acc++[91,63,32]++gZ y++[93] by simp];obtain⟨Q,hQ⟩:∃Q,Q=gZ y:=⟨_,rfl⟩
 rw[<-hQ]at hn HC⊢;obtain⟨M,hM⟩:∃M,M=W0.heap.size:=⟨_,rfl⟩
 rw[<-hM]at H0 HC⊢;have dN:XX ((w.alloc (.cells #[.iface t v] 301)).heap[w.heap.size]?=Za (.cells #[.iface t v] 301 (0,0))):=aE rfl;clear hQ hk hb ho hM mh s9 hJ;go_enter func326,ntmps326;go_wp2_with (at_builtin;refine Bb rfl (.tmp 5) (.const (.string ⟨#[91,63,32]⟩)) rfl M _ acc rfl ?h1 ⟨#[91,63,32]⟩ rfl ?h2 ?h3 ?_)
 case h1=>exact(H0.o.alloc _).ob
 case h2=>omega
 case h3=>have:=H0.o.sz;simp;omega
 intro v1 w1 cE bX;have H1:XX (SW M w w1 v1 (acc++[91,63,32])):=(H0.o.alloc _).grow cE bX;have d0:=kV (Zt _ _ _) (H0.o.alloc _).ob bX w.heap.size _ dN.o (by simp) (by intro c fz e;injection e with _ e2;exact absurd e2 (by decide));have e0:=PJ d0;clear cE bX d0;go_wp2_with fail;refine Zi (HC.o _ _ H1.o) ?_;rintro e w2 ⟨o2,rfl,h2⟩;have H2:=aa (H1.o.trans h2.o);clear h2 e0 zB o9;go_wp2_with (at_builtin;refine kG rfl (.tmp 11) (.tmp 12) rfl M _ (acc++[91,63,32]++Q) rfl ?h1 _ _ _ [93] rfl rfl ?h2 ?h3 ?h4 ?_)
 case h1=>exact H2.o.ob.alloc _
 case h2=>exact cX (by simp) _ _ rfl
 case h3=>simp;omega
 case h4=>have:=H2.o.sz;simp;omega
 intro v3 w3 bz aP;have H3:XX (SW M w w3 v3 (acc++[91,63,32]++Q++[93])):=by
  have:=(H2.o.alloc _).grow bz aP;show SW _ _ _ _ _;simpa using this
 clear bz aP;go_wp2;go_ret;exact⟨_,rfl,H3.o⟩
end
theorem aaU(hgd:o.guard=Zd)(s x:Operand)
 (ho:o.op=.call { callee:=.builtin .append,args:=#[s,x],argTypes:=#[117,117] })
 (v:Ze) (l:O Ze) (hs:a.eval s=v) (am:ao w 36 v l) (ad:Zo) (m c:Zh) (news:O Ze) (hx:a.eval x=.slice (Za ad) m c) (hm:m=news.length)
 (hnews:∀(j:Zh) (u:Ze),news[j]?=Za u->w.cell? (ad.add j)=Za u) (h1:∀u∈news,u.oneCell'=true) (hl:l.length+news.length<=1000000)
 (h:∀v' w',ao w' 36 v' (l++news)->w.grownBy w' v.ownBlock->Zv prog ops Q rest (a.put o.dst v') w'):Zv prog ops Q (o::rest) a w:=by
 obtain⟨i0,hi,ip,ee,dP⟩:=ZA Fj;refine wpList_append_own w hgd s x 117 ho 0 36 i0 .nilIface 1 16 underlying117 hi ip ee dP rfl (by decide) v l.length l hs am ad m c news hx (by rw[hm,ZC]) hnews h1 (by unfold maxLen;omega) (by omega) (ZD _) ?_;intro v' w' q1 q2 _;refine h v' w' ?_ q2;unfold ao;rw[Zg,<-hm];exact q1
theorem SW.other{N:Zh}{w0 w1:Zj}(h:SW N w0 w out acc)(hg:w.grownBy w1 (Za g))(h1:w0.heap.size<=g)(h2:N<=g)(h3:out.ownBlock≠Za g):SW N w0 w1 out acc:=by
 refine⟨⟨h.ob.1,?_⟩,h.bel.grown hg h.sz (λk hk=>by injection hk with hk;omega),Zu h.sz hg.size,λk o hk hb ho=>?_⟩
 .rcases h.ob.2 with q|⟨g',cap,cur,e,q1,q2,q3⟩
  .exact .inl q
  .refine .inr ⟨g',cap,cur,e,q1,?_,q3⟩;rw[hg.block g' (al q2) (λe2=>by injection e2 with e2;exact h3 (by rw[e];simp[Zz,e2])),q2]
 .have:=h.kept k o hk hb ho;rw[hg.block k (al this) (λe2=>by injection e2 with e2;have:=al hk;omega),this]
section
variable {L S N A J La:Zo} {W0 w:Zj} {out:Ze} {acc:O Zf}
theorem ag6(hr:ao W0 36 sl ps)(lK:l.length<=1000)(hk:re W0 l (p::ps))(hb:Zc W0.heap.size W0 w)(ho:OB w W0.heap.size out acc)(hn:acc.length+(40::(⟨#[46]⟩:Zk).data.toList++32::dm [] (cq l)++[41]).length<=3000000000):
 Zb prog 312 #[.agg #[p,sl],out] w λe w'=>ft W0.heap.size w (acc++(40::(⟨#[46]⟩:Zk).data.toList++32::dm [] (cq l)++[41])) e w':=by
 have H0:=aa (SW.start ho hb.size);have mc:ps.length+1=l.length:=by have:=hk.1;simpa using this
 obtain⟨t,v,rfl⟩:∃t v,p=.iface t v:=by
  obtain⟨t,v,h1,_⟩:=hk.2 0 (l[0]'(by omega)) (Zp _);simp at h1;exact⟨t,v,h1⟩
 have HC:XX (∀w2 sv,SW W0.heap.size w w2 out acc->ao w2 36 sv (.iface t v::ps)->Zb prog 283 #[out,.string ⟨#[46]⟩,sv] w2 λe w'=>ft W0.heap.size w2 (acc++(40::(⟨#[46]⟩:Zk).data.toList++32::dm [] (cq l)++[41])) e w'):=λw2 sv h2 lM=>Fy ⟨#[46]⟩ lM hk.1 hk.2 (hb.trans h2.bel) h2.ob (by decide) hn lK
 have OU:XX (∀u∈ps,u.oneCell'=true):=λu hu=>by
  obtain⟨k,dh,ek⟩:=O.getElem_of_mem hu;obtain⟨t',v',h1,_⟩:=hk.2 (k+1) (l[k+1]'(by omega)) (Zp _);simp[Zp dh,ek]at h1;rw[h1];rfl
 have OW:XX (∀k,out.ownBlock=Za k->k<w.heap.size):=λk ek=>(ZE ho k ek).2
 have uX:XX (∀W,Zc w.heap.size w W->ao W 36 sl ps):=λW hW=>by
  have ah:=hb.trans (hW.mono hb.size);exact hr.same (λk ek=>ah.block k (hr.lt ek))
 obtain⟨R,hR⟩:∃R,R=acc++(40::(⟨#[46]⟩:Zk).data.toList++32::dm [] (cq l)++[41]):=⟨_,rfl⟩
 rw[<-hR]at HC⊢;have Hg:=hb.size;obtain⟨M,hM⟩:∃M,M=W0.heap.size:=⟨_,rfl⟩
 rw[<-hM]at H0 HC Hg⊢;have nz:ps.length<=1000:=by omega
 rcases hr.len with⟨rfl,rfl⟩|⟨g,cap,rfl,_⟩
 .clear hR hk hb ho hM hn hr mc nz Hg OU OW uX;have ig:XX (ao ((w.alloc (.cells #[.iface t v,.slice Zd 0 0] 277)).alloc (.cells #[.iface t v] 36)) 36 (.slice (Za ⟨w.heap.size+1,0,Zd⟩) 1 1) [.iface t v]):=FC [.iface t v] 1 rfl (by omega) (by simp);go_enter func312,ntmps312;go_wp2_with fail;have H1:=aa ((H0.o.alloc (.cells #[.iface t v,.slice Zd 0 0] 277)).alloc (.cells #[.iface t v] 36));refine Zi (HC.o _ _ H1.o ig.o) ?_;rintro e w4 ⟨o4,rfl,h4⟩;have H4:=aa (H1.o.trans h4.o);clear h4;go_wp2;go_ret;exact⟨_,rfl,H4.o⟩
 .have ig:XX (ao ((w.alloc (.cells #[.iface t v,.slice (Za ⟨g,0,Zd⟩) ps.length cap] 277)).alloc (.cells #[.iface t v] 36)) 36 (.slice (Za ⟨w.heap.size+1,0,Zd⟩) 1 1) [.iface t v]):=FC [.iface t v] 1 rfl (by omega) (by simp);have aY:XX (Zc w.heap.size w ((w.alloc (.cells #[.iface t v,.slice (Za ⟨g,0,Zd⟩) ps.length cap] 277)).alloc (.cells #[.iface t v] 36))):=((Zr _ w).alloc (Zw _) _).alloc (by simp) _;have HRP:=aa (uX.o _ aY.o);clear hR hk hb ho hM hn hr mc;go_enter func312,ntmps312;go_wp2_with (at_builtin;refine aaU rfl (.tmp 8) (.tmp 10) rfl _ [.iface t v] rfl ?h1 ⟨g,0,Zd⟩ _ _ ps rfl rfl ?h2 ?h3 ?h4 ?_)
  case h1=>exact ig.o
  case h2=>
   intro j u hu;rw[Zo.add_lit,Zh.zero_add];exact HRP.o.get hu
  case h3=>exact OU.o
  case h4=>simp;omega
  intro v3 w3 Sm aP;have H3:XX (SW M w w3 out acc):=((H0.o.alloc _).alloc _).other (g:=w.heap.size+1) aP (by omega) (by omega) (λe=>by have:=OW.o _ e;omega);have lc:=aa (HC.o w3 v3 H3.o Sm);clear Sm aP;go_wp2_with fail;refine Zi lc.o ?_;rintro e w4 ⟨o4,rfl,h4⟩;have H4:=aa (H3.o.trans h4.o);clear h4;go_wp2;go_ret;exact⟨_,rfl,H4.o⟩
end
end Go.Proofs.YtdlgkgfeoiohiaaGreatDoor
