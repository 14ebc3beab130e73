/- Part 21. -/
import Derived.Test.YtdlgkgfeoiohiaaGreatDoorA19
import Derived.Test.YtdlgkgfeoiohiaaGreatDoorA20
import Derived.Test.YtdlgkgfeoiohiaaGreatDoorRows
import Derived.Lib.LaidU8T
import Derived.PinnedBridge
import Derived.LaidLaws
import Derived.LaidHandle
import Derived.Lib.LaidIn
import Derived.Lib.ValidAsc
import Derived.Lib.EndianBits
import Derived.Deep.DeepBigQuietO
open Bool renaming false -> Zg,true -> Zl
open Go renaming World -> Zn
open Go.Calls renaming quiet_of -> Zi,mono -> ZG
open Go.DataW renaming LaidVars -> Zz
open Go.Lib renaming accLo -> Zk,accHi -> Zm,firstT -> Zu,or_mask -> Zv
open Go.MemPlace renaming cell -> Zq,row -> ZC
open Go.Obj renaming row? -> Zy
open Go.RowKit renaming Below -> Zj
open Go.Value renaming int -> ZD,okWide -> ZE
open Go.World renaming var?_cell -> Zo
open Int renaming toNat_natCast -> ZH
open List renaming mem_append_right -> Zw,mem_singleton -> ZA,nodup_append -> ZB,nodup_cons -> ZI,range -> ZJ
open Nat renaming le_refl -> Zr,or_lt_two_pow -> Zx,add_zero -> ZK,mul_comm -> ZL
open Option renaming some -> Zb,none -> Zd,bind_some -> ZM
open Option.some renaming inj -> Zt
open _root_ renaming Int -> O,if_neg -> Za,Nat -> Zc,List -> Ze,if_pos -> Zf,ByteArray -> Zh,Array -> Zp,decide_eq_false -> ZN
namespace Go.Proofs.YtdlgkgfeoiohiaaGreatDoor
set_option linter.unusedVariables false
set_option maxHeartbeats 16000000
set_option maxRecDepth 100000
open Go.RowKit J Go.Proofs.Tryz
variable {inn:bc}{u s:Zh}{k g i j X:Zc}{W w:Zn}{R:Bool}{ex part:Zc->PR}{P:Program}{T:Ze (aj×Zc)}{x:Nd}
def UD (t : Ze UInt8): DataW Unit := .iface "*errors.errorString" (.ptr (.agg [.lit (.string t)]))
theorem V6: "*" ++ "errors.errorString" = "*errors.errorString" := by decide
theorem akI(u : TypeId) (h : prog.typeName? 3 u = Zb "*errors.errorString"): u = 279 :=
 typeName_ptr_named (nm := "errors.errorString") (by rw[V6]; kernel_rfl) (by kernel_rfl) (by decide) u (by rw[V6]; exact h)
theorem aku:prog.cellsOf 281=1:=by kernel_rfl
theorem akv:prog.cellsOf 9=1:=by kernel_rfl
def aaO(W:Zn)(ps:Ze MemPlace)(n:String)(a:Addr):Prop:=
 W.var? prog n=Zb #[.iface 279 (.pointer (Zb a))]/\Zq a.block a.off∈ps
theorem UE:∀(l:Ze (String×Ze UInt8)) (rest:Ze (String×DataW Unit)) (ps:Ze MemPlace),Zz prog W (l.map (λx=>(x.1,UD x.2))++rest) ps->ps.Nodup ->
 (∀b off,Zq b off∈ps->∀u v,W.cell? ⟨b,off,Zd⟩=Zb (.iface u v)->ZE prog W .any 0 u v) ->
 (∀x∈l,∀g t,prog.globalNamed x.1=Zb g->(prog.globals[g]?).map (·.type)=Zb t->t=29) ->
 ∃ads:Ze Addr,bO (λ(x:String×Ze UInt8) a=>aaO W ps x.1 a) l ads/\ads.Nodup
 |[],rest,ps,_,_,_,_=>⟨[],trivial,Ze.nodup_nil⟩
 |(n,t)::l,rest,ps,h,hnd,be,vU=>by
  obtain⟨g,ty,cs,fuel,p,q,hg,ht,hv,hd,hr,rfl⟩:=h;obtain rfl:=vU (n,t) (Ze.mem_cons_self ..) g ty hg ht;have hq:q.Nodup:=(ZB.1 hnd).2.1;obtain⟨ads,cG,Bw⟩:=UE l rest q hr hq (λb off hm=>be b off (Zw _ hm)) (λx hx=>vU x (Ze.mem_cons_of_mem _ hx));obtain⟨l0⟩:=cs;have ok0:∀u v,l0=[.iface u v]->ZE prog W .any 0 u v:=λu v e=>by
   subst e;exact be g 0 (by simp[ZC]) u v (by simpa using Zo hg hv 0)
  obtain⟨a, s, rfl, hc, hs, hz, rfl⟩:= errorString_of_trod (f := { name := "s", type := 9, offset := 0, embedded := Zg, tag := "", pkgPath := "errors", byteOffset := 0 }) underlying29 akI underlying279 underlying281 rfl rfl underlying9 aku akv hd ok0
  refine⟨a::ads,⟨⟨hv,by simp[ZC]⟩,cG.mono (λx b hb=>⟨hb.1,Zw _ hb.2⟩)⟩,?_⟩;rw[ZI];refine⟨λhm=>?_,Bw⟩;obtain⟨x,hx⟩:=bO.mem cG a hm;have adX:=(ZB.1 hnd).2.2;exact adX (Zq a.block a.off) (by simp[ZC]) (Zq a.block a.off) hx.2 rfl
def Js : Ze (String × Ze UInt8):= [("strconv.ErrRange", [118, 97, 108, 117, 101, 32, 111, 117, 116, 32, 111, 102, 32, 114, 97, 110, 103, 101]), ("strconv.ErrSyntax", [105, 110, 118, 97, 108, 105, 100, 32, 115, 121, 110, 116, 97, 120]), ("pluck/fault.Long", [116, 104, 101, 32, 116, 101, 120, 116, 32, 105, 115, 32, 116, 111, 111, 32, 108, 111, 110, 103]), ("pluck/fault.Syntax", [110, 111, 32, 101, 120, 112, 114, 101, 115, 115, 105, 111, 110]), ("pluck/fault.Name", [110, 111, 32, 115, 117, 99, 104, 32, 102, 117, 110, 99, 116, 105, 111, 110]), ("pluck/fault.Arity", [110, 111, 116, 32, 116, 104, 101, 32, 97, 114, 103, 115, 32, 116, 104, 97, 116, 32, 116, 104, 101, 32, 102, 117, 110, 99, 116, 105, 111, 110, 32, 116, 97, 107, 101, 115]), ("pluck/fault.JSON", [110, 111, 32, 74, 83, 79, 78, 32, 116, 101, 120, 116]), ("pluck/fault.Large", [97, 32, 110, 117, 109, 98, 101, 114, 32, 116, 104, 97, 116, 32, 105, 115, 32, 116, 111, 111, 32, 103, 114, 101, 97, 116, 44, 32, 111, 114, 32, 116, 111, 111, 32, 102, 105, 110, 101])]
def CT : Ze (String × DataW Unit):= ("math/bits.deBruijn32tab", Rows.laid_math_bits_deBruijn32tab) :: ("math/bits.deBruijn64tab", Rows.laid_math_bits_deBruijn64tab) :: ("internal/strconv.uint64pow10", Rows.laid_internal_strconv_uint64pow10) :: ("unicode/utf8.acceptRanges", Rows.laid_unicode_utf8_acceptRanges) :: (Js.map (λx => (x.1, UD x.2)) ++ [("unicode/utf8.first", Rows.laid_unicode_utf8_first)])
theorem V4:(Rows.compactsRow.laid.filter λx=>x.2.handleName?.isNone)=CT:=by kernel_rfl
theorem akx: (Rows.compactsRow.laid.filter λx => x.2.handleName?.isSome) = [("errors.errorType", Rows.laid_errors_errorType)]:= by kernel_rfl
theorem akF(h : laidMetH prog Rows.compactsRow.laid W): laidMet prog CT W ∧ handlesMet prog [("errors.errorType", Rows.laid_errors_errorType)] W := by
 unfold laidMetH at h;rw[akx,V4]at h;exact h
theorem zEt: prog.globalNamed "errors.errorType" = Zb 6 := by kernel_rfl
theorem zRt: (prog.cutTypes.find? (·.1 == "internal/reflectlite.rtype")).map (·.2) = Zb 145 := by kernel_rfl
theorem akD:((ZJ prog.types.size).filter λt=>prog.rowNamed t [101,114,114,111,114])=[29]:=by kernel_rfl
theorem aky(h : handlesMet prog [("errors.errorType", Rows.laid_errors_errorType)] W): rZ W := by
 obtain⟨name,u,ty,e1,e2,e3,e4,e5⟩:=h _ (ZA.2 rfl);have en:name=[101,114,114,111,114]:=(Zt e1).symm;subst en;obtain rfl:=Zt (zRt.symm.trans e2);have hm:ty∈(ZJ prog.types.size).filter λt=>prog.rowNamed t [101,114,114,111,114]:=Ze.mem_filter.2 ⟨Ze.mem_range.2 e3,e4⟩
 rw[akD]at hm;obtain rfl:=ZA.1 hm;have hh:typeHandle prog 29=.pointer (Zb ⟨15,29,Zd⟩):=by kernel_rfl
 rw[hh]at e5;unfold rZ;simpa using Zo zEt e5 0
theorem Iv{x:String×DataW Unit}{r:Ze (String×DataW Unit)}{ps:Ze MemPlace}(h:Zz P W (x::r) ps):∃q,Zz P W r q/\(ps.Nodup->q.Nodup)/\∀y∈q,y∈ps:=by
 obtain⟨n,d⟩:=x;obtain⟨g,t,cs,f,p,q,_,_,_,_,hr,rfl⟩:=h;exact⟨q,hr,λhn=>(ZB.1 hn).2.1,λy hy=>Zw _ hy⟩
theorem akL:(Js.all λx=>((prog.globalNamed x.1).bind λg=>(prog.globals[g]?).map (·.type))==Zb 29)=Zl:=by kernel_rfl
theorem zTy:∀x∈Js,∀g t,prog.globalNamed x.1=Zb g->(prog.globals[g]?).map (·.type)=Zb t->t=29:=by
 intro x hx g t hg ht;have h:=Ze.all_eq_true.1 akL x hx;rw[hg,ZM,ht,beq_iff_eq]at h;exact Zt h
theorem gR: prog.globalNamed "strconv.ErrRange" = Zb 12 := by kernel_rfl
theorem gL: prog.globalNamed "pluck/fault.Long" = Zb 0 := by kernel_rfl
theorem gS: prog.globalNamed "pluck/fault.Syntax" = Zb 2 := by kernel_rfl
theorem gN: prog.globalNamed "pluck/fault.Name" = Zb 3 := by kernel_rfl
theorem gA: prog.globalNamed "pluck/fault.Arity" = Zb 4 := by kernel_rfl
theorem gJ: prog.globalNamed "pluck/fault.JSON" = Zb 5 := by kernel_rfl
theorem gLa: prog.globalNamed "pluck/fault.Large" = Zb 1 := by kernel_rfl
theorem gP: prog.globalNamed "internal/strconv.uint64pow10" = Zb 7 := by kernel_rfl
theorem Ha:prog.globals.size=15:=by kernel_rfl
theorem ain:(((begin prog (λ_ _=>0) default).world.heap[5]?).bind Zy)=Zb (#[.nilIface],29):=by kernel_rfl
theorem aip:(((begin prog (λ_ _=>0) default).world.heap[10]?).bind Zy)=Zb (#[.int .i64 0],3):=by kernel_rfl
theorem aio:((((begin prog (λ_ _=>0) default).world.heap[15-1]?).bind Zy).isSome)=Zl:=by kernel_rfl
theorem bM:prog.buildable 3=Zl:=by kernel_rfl
theorem cM:prog.cellTypes prog.depth 3=Zb [3]:=by kernel_rfl
theorem afN{t:TypeId}{k:IntKind}{zero:Zp Value}(h:w.ShapedOpen P)(hg:g<P.globals.size)
 (h0:((begin P (λ_ _=>0) default).world.heap[g]?).bind Zy=Zb (zero,t)) (hz:zero.size=1)
 (hb:P.buildable t=Zl) (hc:P.cellTypes P.depth t=Zb [t]) (hu:P.underlying t=Zb (.int k)):∃m,w.cell? ⟨g,0,Zd⟩=Zb (.int k m):=by
 obtain⟨cs,hh,hs,hr⟩:=h.1 g zero t hg h0;obtain⟨ts,Ch,_,cG⟩:=hr hb;rw[hc]at Ch;cases Ch
 have h1:0<cs.size:=by omega
 obtain⟨u,hu',be⟩:=cG 0 cs[0] (by simp[h1]);have:u=t:=by simpa using hu'.symm
 subst this;have EH:w.cell? ⟨g,0,Zd⟩=Zb cs[0]:=by simp[Zn.cell?,hh,h1]
 rw[EH];unfold Cell.ok at be;rw[hu]at be;cases hv:cs[0] <;> rw[hv]at be <;> simp at be
 obtain⟨rfl,_⟩:=be;exact⟨_,rfl⟩
theorem agn(h:W.ShapedOpen prog):∃m,W.cell? ⟨10,0,Zd⟩=Zb (.int .i64 m):=
 afN h (by rw[Ha];decide) aip rfl bM cM underlying3
theorem abF:Rows.laid_internal_strconv_uint64pow10=(Lib.tabData .u64 Lib.pow10Tab:DataW Unit):=by kernel_rfl
theorem abE:Rows.laid_unicode_utf8_acceptRanges=(Lib.acceptData:DataW Unit):=by kernel_rfl
theorem aiV:(prog.globals[7]?).map (·.type)=Zb 260:=by kernel_rfl
theorem abk:prog.cellsOf 260=20:=by kernel_rfl
theorem abl:prog.cellsOf 229=1:=by kernel_rfl
theorem ahF(h : Lib.VarReads prog W "internal/strconv.uint64pow10" (Lib.tabData .u64 Lib.pow10Tab)): Lib.TabIs prog W "internal/strconv.uint64pow10" .u64 Lib.pow10Tab := by
 obtain⟨g,t,cs,fuel,p,hg,vU,qd,hd⟩:=h;obtain rfl:=Zt (gP.symm.trans hg);obtain rfl:=Zt (aiV.symm.trans vU);unfold Lib.TabIs;rw[qd,<-Lib.cells_of_tab underlying260 underlying229 abl abk hd]
def V5:Shelf.Ren:=⟨λx=>x,λx=>if x=5 then 5 else if x=119 then 266 else if x=138 then 268 else 269,λx=>if x=3 then 8 else 9⟩
theorem zU8:U8Types prog V5:=⟨underlying5,underlying266,underlying268,underlying269⟩
theorem akN:U8Extra prog V5:=⟨by kernel_rfl,by kernel_rfl,by kernel_rfl,by kernel_rfl,by kernel_rfl,by kernel_rfl,by kernel_rfl⟩
theorem akC: (("internal/strconv.uint64pow10", (Lib.tabData .u64 Lib.pow10Tab : DataW Unit)) ∈ CT):= by
 rw[<-abF];exact .tail _ (.tail _ (.head _))
theorem akA: (("unicode/utf8.acceptRanges", (Lib.acceptData : DataW Unit)) ∈ CT):= by
 rw[<-abE];exact .tail _ (.tail _ (.tail _ (.head _)))
theorem akB: (("unicode/utf8.first", (Lib.firstData : DataW Unit)) ∈ CT):= by
 rw[<-Pinned.utf8First_eq];exact .tail _ (.tail _ (.tail _ (.tail _ (Zw _ (ZA.2 rfl)))))
theorem aiQ(h:laidMetH prog Rows.compactsRow.laid W)(nB:W.ShapedOpen prog):∃L S N A J La,fw W L S N A J La:=by
 obtain⟨hl,hh⟩:=akF h;have hE:=aky hh;have hU:Lib.Utf8Tabs 8 9 W:=utf8Tabs_of_readsT zU8 akN (Lib.laidMet.reads hl akB) (Lib.laidMet.reads hl akA);have hP:=ahF (Lib.laidMet.reads hl akC);obtain⟨m,hM⟩:=agn nB;obtain⟨ps,zO,hnd,So⟩:=hl;unfold CT at zO;have hv:=zO;obtain⟨q1,xD,Ib,ay⟩:=Iv hv;obtain⟨q2,xE,rJ,cB⟩:=Iv xD;obtain⟨q3,ti,uo,bm⟩:=Iv xE;obtain⟨q4,Ci,bI,rP⟩:=Iv ti;have eB:∀y∈q4,y∈ps:=λy hy=>ay y (cB y (bm y (rP y hy)))
 have hq4:q4.Nodup:=bI (uo (rJ (Ib hnd)));have aeN:∀b off,Zq b off∈q4->∀u v,W.cell? ⟨b,off,Zd⟩=Zb (.iface u v)->ZE prog W .any 0 u v:=λb off hm=>(So b off (eB _ hm)).2
 obtain⟨ads, cG, Bw⟩:= UE Js [("unicode/utf8.first", Rows.laid_unicode_utf8_first)] q4 Ci hq4 aeN zTy
 have blk:∀a:Addr,Zq a.block a.off∈q4->∃c t,W.heap[a.block]?=Zb (.cells c t (0,0)):=λa ha=>(So a.block a.off (eB _ ha)).1
 match ads,cG,Bw with
 |[eR,eS,L,S,N,A,J,La],⟨h1,h2,h3,h4,h5,h6,h7,h8,_⟩,Bw=>
  refine⟨L,S,N,A,J,La,?_,⟨?_,?_,?_,?_,?_,?_,blk _ h3.2,blk _ h4.2,blk _ h5.2,blk _ h6.2,blk _ h7.2,blk _ h8.2,?_⟩,?_,⟨hU,⟨m,hM⟩,279,.pointer (Zb eR),?_⟩,hE,Lib.tabBelow_of_tabIs hP⟩
  .obtain⟨x,hx⟩:=Option.isSome_iff_exists.1 aio;obtain⟨cs,hh,_⟩:=nB.1 (15-1) x.1 x.2 (by rw[Ha];decide) hx;have:=al hh;omega
  .simpa using Zo gL h3.1 0
  .simpa using Zo gS h4.1 0
  .simpa using Zo gN h5.1 0
  .simpa using Zo gA h6.1 0
  .simpa using Zo gJ h7.1 0
  .simpa using Zo gLa h8.1 0
  .simp only[ZI,Ze.mem_cons,not_or]at Bw;obtain⟨_,_,⟨n1,n2,n3,n4,n5,_⟩,⟨n6,n7,n8,n9,_⟩,⟨n10,n11,n12,_⟩,⟨n13,n14,_⟩,⟨n15,_⟩,_⟩:=Bw;exact⟨n1,n2,n3,n4,n5,n6,n7,n8,n9,n10,n11,n12,n13,n14,n15⟩
  .obtain⟨cs,hh,_⟩:=nB.1 5 _ _ (by rw[Ha];decide) ain;have hc:=h7.1;unfold Zn.var? at hc;rw[gJ,ZM,hh]at hc;have LE:cs=#[.iface 279 (.pointer (Zb J))]:=Zt hc;rw[hh,LE]
  .exact by simpa using Zo gR h1.1 0
def akG(h:Zp Obj)(g:Zc)(cs:Zp Value):Zp Obj:=h.modify g fun
 |.cells _ t frozen=>.cells cs t frozen
 |o=>o
def Jr:DataW Unit->Zp Value
 |.agg ps=>(ps.flatMap λd=>match d with
  |.lit (.int k z)=>[ZD k z]
  |.agg qs=>qs.filterMap λe=>match e with
   |.lit (.int k z)=>Zb (ZD k z)
   |_=>Zd
  |_=>[]).toArray
 |_=>#[]
def akz(h0:Zp Obj)(N:Zc):Zp Obj:=
 let put:=akG
 let h1:=put h0 13 (Jr Rows.laid_math_bits_deBruijn32tab)
 let h2:=put h1 14 (Jr Rows.laid_math_bits_deBruijn64tab)
 let h3:=put h2 7 (Jr Rows.laid_internal_strconv_uint64pow10)
 let h4:=put h3 9 (Jr Rows.laid_unicode_utf8_acceptRanges)
 let k0:=put h4 12 #[.iface 279 (.pointer (Zb ⟨N+0,0,Zd⟩))]
 let k1:=put k0 11 #[.iface 279 (.pointer (Zb ⟨N+1,0,Zd⟩))]
 let k2:=put k1 0 #[.iface 279 (.pointer (Zb ⟨N+2,0,Zd⟩))]
 let k3:=put k2 2 #[.iface 279 (.pointer (Zb ⟨N+3,0,Zd⟩))]
 let k4:=put k3 3 #[.iface 279 (.pointer (Zb ⟨N+4,0,Zd⟩))]
 let k5:=put k4 4 #[.iface 279 (.pointer (Zb ⟨N+5,0,Zd⟩))]
 let k6:=put k5 5 #[.iface 279 (.pointer (Zb ⟨N+6,0,Zd⟩))]
 let k7:=put k6 1 #[.iface 279 (.pointer (Zb ⟨N+7,0,Zd⟩))]
 let m1:=put k7 8 (Lib.firstTab.map λz=>ZD .u8 z).toArray
 put m1 6 #[.iface 145 (.agg #[.pointer (Zb ⟨15,29,Zd⟩)])]
def V3:Zp Obj:=#[.cells #[.string ⟨#[118,97,108,117,101,32,111,117,116,32,111,102,32,114,97,110,103,101]⟩] 281,.cells #[.string ⟨#[105,110,118,97,108,105,100,32,115,121,110,116,97,120]⟩] 281,.cells #[.string ⟨#[116,104,101,32,116,101,120,116,32,105,115,32,116,111,111,32,108,111,110,103]⟩] 281,.cells #[.string ⟨#[110,111,32,101,120,112,114,101,115,115,105,111,110]⟩] 281,.cells #[.string ⟨#[110,111,32,115,117,99,104,32,102,117,110,99,116,105,111,110]⟩] 281,.cells #[.string ⟨#[110,111,116,32,116,104,101,32,97,114,103,115,32,116,104,97,116,32,116,104,101,32,102,117,110,99,116,105,111,110,32,116,97,107,101,115]⟩] 281,.cells #[.string ⟨#[110,111,32,74,83,79,78,32,116,101,120,116]⟩] 281,.cells #[.string ⟨#[97,32,110,117,109,98,101,114,32,116,104,97,116,32,105,115,32,116,111,111,32,103,114,101,97,116,44,32,111,114,32,116,111,111,32,102,105,110,101]⟩] 281]
def jx(R:Zc->PR):Prop:=∀i x j,R i=.ok (x,j)->i<j
def nP:bc->Prop
 |none=>True
 |some f=>jx f.1/\jx f.2
theorem pn{y:Nd}(h:gY T s x i=.ok (y,j)):y=x/\j=i+1:=by
 unfold gY at h;split at h
 .injection h with h;injection h with h1 h2;exact⟨h1.symm,h2.symm⟩
 .cases h
theorem IT{thing:Zc->Except Zc (Ze Zh×Nd×Zc)}(ht:∀i y,thing i=.ok y->i<y.2.2):∀(f:Zc) (ks:Ze Zh) (l:Ze Nd) (i:Zc) (y:Ze Zh×Ze Nd×Zc),dY T thing f ks l i=.ok y->i<=y.2.2
 |0,ks,l,i,y,h=>by rw[dY]at h;injection h with h;subst h;exact Zr _
 |f+1,ks,l,i,y,h=>by
  rw[dY]at h;cases hx:thing i with
  |error e=>rw[hx]at h;cases h
  |ok z=>
   rw[hx]at h;have h1:=ht i z hx;simp only at h;split at h
   .have:=IT ht f _ _ _ _ h;omega
   .injection h with h;subst h;simp only;omega
section
variable {T:Ze (aj×Zc)}
theorem S9(hm:jx ex):∀i y,kn ex i=.ok y->i<y.2.2:=by
 intro i y h;unfold kn at h;cases hx:ex i with
 |error e=>rw[hx]at h;cases h
 |ok z=>rw[hx]at h;injection h with h;subst h;exact hm i z.1 z.2 hx
theorem Pt(hm:jx ex):∀i y,ke T ex i=.ok y->i<y.2.2:=by
 intro i y h;unfold ke at h;split at h
 .cases hx:ex (i+1)with
  |error e=>rw[hx]at h;cases h
  |ok z=>rw[hx]at h;injection h with h;subst h;have:=hm (i+1) z.1 z.2 hx;simp only;omega
 .cases hx:ex i with
  |error e=>rw[hx]at h;cases h
  |ok z=>rw[hx]at h;injection h with h;subst h;exact hm i z.1 z.2 hx
theorem Tr(hm:jx ex):∀i y,ji T ex i=.ok y->i<y.2.2:=by
 intro i y h;unfold ji at h;split at h
 .split at h
  .cases hx:ex (i+2)with
   |error e=>rw[hx]at h;cases h
   |ok z=>rw[hx]at h;injection h with h;subst h;have:=hm (i+2) z.1 z.2 hx;simp only;omega
  .cases h
 .cases h
theorem abo(hm:nP inn):jx (mx T inn):=by
 intro i x j h;cases inn with
 |none=>cases h
 |some f=>
  unfold mx at h;simp only at h;split at h
  .injection h with h;injection h with h1 h2;omega
  .cases hx:dY T (ke T f.2) T.length [] [] (i+2)with
   |error e=>rw[hx]at h;cases h
   |ok z=>rw[hx]at h;have h1:=IT (Pt hm.2) _ _ _ _ _ hx;have h2:=(pn h).2;omega
theorem Iw(hm:nP inn):jx (ko T inn):=by
 intro i x j h;cases inn with
 |none=>cases h
 |some f=>
  unfold ko at h;simp only at h;cases hx:dY T (kn f.2) T.length [] [] (i+1)with
  |error e=>rw[hx]at h;cases h
  |ok z=>rw[hx]at h;have h1:=IT (S9 hm.2) _ _ _ _ _ hx;have h2:=(pn h).2;omega
theorem agN(hm:nP inn):jx (oj T inn):=by
 intro i x j h;cases inn with
 |none=>cases h
 |some f=>
  unfold oj at h;simp only at h;cases hx:dY T (ji T f.2) T.length [] [] (i+1)with
  |error e=>rw[hx]at h;cases h
  |ok z=>rw[hx]at h;have h1:=IT (Tr hm.2) _ _ _ _ _ hx;have h2:=(pn h).2;omega
theorem Bg(i:Zc):i<=(aZ T i).2.2:=by
 unfold aZ;split
 .simp
 .simp
theorem afA{f:(Zc->PR)×(Zc->PR)}(hm:jx f.2)(h:fH T f i=.ok (x,j)):i<=j:=by
 have b1:=Bg (T:=T) i;have b2:=Bg (T:=T) ((aZ T i).2.2+1);have b3:=Bg (T:=T) ((aZ T ((aZ T i).2.2+1)).2.2+1);unfold fH at h;split at h
 .injection h with h;injection h with h1 h2;omega
 split at h
 .injection h with h;injection h with h1 h2;omega
 split at h
 .cases hx:f.2 (i+1)with
  |error e=>rw[hx]at h;cases h
  |ok z=>rw[hx]at h;injection h with h;injection h with h1 h2;have:=hm (i+1) z.1 z.2 hx;omega
 split at h
 .split at h
  .split at h
   .cases h
   .injection h with h;injection h with h1 h2;omega
  .injection h with h;injection h with h1 h2;omega
 split at h
 .injection h with h;injection h with h1 h2;omega
 .cases h
theorem GM(hm:nP inn):jx (jy T inn):=by
 intro i x j h;cases inn with
 |none=>cases h
 |some f=>
  unfold jy at h;simp only at h;cases hx:fH T f (i+1)with
  |error e=>rw[hx]at h;cases h
  |ok z=>rw[hx]at h;have h1:=afA hm.2 (x:=z.1) (j:=z.2) hx;have h2:=(pn h).2;omega
theorem IN(hm:nP inn):jx (fR T inn):=by
 intro i x j h;unfold fR at h;split at h
 .exact abo hm i x j h
 split at h
 .injection h with h;injection h with h1 h2;omega
 split at h
 .injection h with h;injection h with h1 h2;omega
 split at h
 .exact agN hm i x j h
 .cases h
theorem acL(hm:nP inn):jx (fx T inn):=by
 intro i x j h;unfold fx at h;split at h
 .injection h with h;injection h with h1 h2;omega
 split at h
 .injection h with h;injection h with h1 h2;omega
 split at h
 .cases inn with
  |none=>cases h
  |some f=>
   simp only at h;cases hx:f.2 (i+1)with
   |error e=>rw[hx]at h;cases h
   |ok z=>rw[hx]at h;have h1:=hm.2 (i+1) z.1 z.2 hx;have h2:=(pn h).2;omega
 split at h
 .split at h
  .exact GM hm i x j h
  .exact Iw hm i x j h
 split at h
 .injection h with h;injection h with h1 h2;omega
 .exact IN hm i x j h
theorem Ky(hm:nP inn):∀(f:Zc) (l:Ze Nd) (i:Zc) (y:Ze Nd×Zc),d7 T inn f l i=.ok y->i<=y.2
 |0,l,i,y,h=>by rw[d7]at h;injection h with h;subst h;exact Zr _
 |f+1,l,i,y,h=>by
  rw[d7]at h;split at h
  .split at h
   .cases h
   .rename_i z hx
    have:=Ky hm f _ _ _ h;split at hx
    .have h1:=Iw hm (i+1) z.1 z.2 hx;omega
    .have h1:=IN hm (i+1) z.1 z.2 hx;omega
  split at h
  .cases hx:jy T inn i with
   |error e=>rw[hx]at h;cases h
   |ok z=>rw[hx]at h;have h1:=GM hm i z.1 z.2 hx;have:=Ky hm f _ _ _ h;omega
  .injection h with h;subst h;exact Zr _
theorem PN(hm:nP inn):jx (fb T inn):=by
 intro i x j h;unfold fb at h;cases hx:fx T inn i with
 |error e=>rw[hx]at h;cases h
 |ok z=>
  rw[hx]at h;have h1:=acL hm i z.1 z.2 hx;simp only at h;cases hy:d7 T inn T.length [z.1] z.2 with
  |error e=>rw[hy]at h;cases h
  |ok y=>rw[hy]at h;injection h with h;injection h with h2 h3;have:=Ky hm _ _ _ _ hy;omega
theorem Fs(hm:nP inn):jx (fA T inn):=by
 intro i x j h;unfold fA at h;split at h
 .cases inn with
  |none=>cases h
  |some f=>
   simp only at h;cases hx:f.1 (i+1)with
   |error e=>rw[hx]at h;cases h
   |ok z=>rw[hx]at h;injection h with h;injection h with h1 h2;have:=hm.1 (i+1) z.1 z.2 hx;omega
 .cases hx:fb T inn i with
  |error e=>rw[hx]at h;cases h
  |ok z=>
   rw[hx]at h;have h1:=PN hm i z.1 z.2 hx;simp only at h;cases hc:ln T z.2 ii with
   |none=>rw[hc]at h;injection h with h;subst h;exact h1
   |some s=>
    rw[hc]at h;simp only at h;cases hy:fb T inn (z.2+1)with
    |error e=>rw[hy]at h;cases h
    |ok y=>rw[hy]at h;injection h with h;injection h with h2 h3;have:=PN hm (z.2+1) y.1 y.2 hy;omega
theorem TO(hm:jx part):∀(f:Zc) (x:Nd) (i:Zc) (y:Nd×Zc),ly T part s f x i=.ok y->i<=y.2
 |0,x,i,y,h=>by rw[ly]at h;injection h with h;subst h;exact Zr _
 |f+1,x,i,y,h=>by
  rw[ly]at h;split at h
  .cases hx:part (i+1)with
   |error e=>rw[hx]at h;cases h
   |ok z=>rw[hx]at h;have h1:=hm (i+1) z.1 z.2 hx;have:=TO hm f _ _ _ h;omega
  .injection h with h;subst h;exact Zr _
theorem Cw(hm:jx part):jx (iF T s part):=by
 intro i x j h;unfold iF at h;cases hx:part i with
 |error e=>rw[hx]at h;cases h
 |ok z=>rw[hx]at h;have h1:=hm i z.1 z.2 hx;have:=TO hm _ _ _ _ h;simp only at this;omega
theorem Ag(hm:nP inn)(n:Zc):jx (fm T inn n):=by
 match n with
 |0=>exact Fs hm
 |1=>exact Cw (Fs hm)
 |2=>exact Cw (Cw (Fs hm))
 |n+3=>exact Cw (Cw (Cw (Fs hm)))
theorem tn:∀n,nP (bV T n)
 |0=>trivial
 |n+1=>⟨Fs (tn n),Ag (tn n) 3⟩
end
theorem Jh(u:Zh):∀f f' k,k<=u.size->u.size<f+k->u.size<f'+k->lR u f k=lR u f' k
 |0,f',k,hk,h,h'=>by omega
 |f+1,0,k,hk,h,h'=>by omega
 |f+1,f'+1,k,hk,h,h'=>by
  rw[lR,lR];by_cases h1:gb u k<0
  .rw[Zf h1,Zf h1]
  rw[Za h1,Za h1];have hl:k<u.size:=cC (by omega);by_cases h2:gb u k<128
  .rw[Zf h2,Zf h2];exact Jh u f f' (k+1) (by omega) (by omega) (by omega)
  rw[Za h2,Za h2];by_cases h3:(et u k (-1)).2<0
  .rw[Zf h3,Zf h3];have:=Cq h3;exact Jh u f f' _ this.2.1 (by omega) (by omega)
  .rw[Za h3,Za h3]
def nL(u:Zh)(k:Zc)(R:Bool):Prop:=k<=u.size/\∀f,u.size<f+k->lR u f k=R
theorem ajV(u:Zh):nL u 0 (pz u):=⟨by omega,λf hf=>Jh u f _ 0 (by omega) hf (by omega)⟩
theorem ajW(h:nL u u.size R):R=Zl:=by
 rw[<-h.2 1 (by omega),lR,Zf (by rw[nS (Zr _)];omega)]
theorem Vi(h:nL u k R)(h0:0<=gb u k)(h1:gb u k<128):nL u (k+1) R:=by
 have hl:k<u.size:=cC h0;refine⟨by omega,λf hf=>?_⟩;rw[<-h.2 (f+1) (by omega),lR,Za (by omega),Zf h1]
theorem xW:∀j,nL u k R->(∀i,i<j->0<=gb u (k+i)/\gb u (k+i)<128)->nL u (k+j) R
 |0,h,_=>h
 |j+1,h,ha=>Vi (xW j h (λi hi=>ha i (by omega))) (ha j (by omega)).1 (ha j (by omega)).2
theorem ajY(h:nL u k R)(h1:128<=gb u k):(et u k (-1)).2<0/\nL u (et u k (-1)).1 R\/¬(et u k (-1)).2<0/\R=Zg:=by
 have hl:k<u.size:=cC (by omega);by_cases h3:(et u k (-1)).2<0
 .have hg:=Cq h3;refine .inl ⟨h3,hg.2.1,λf hf=>?_⟩;rw[<-h.2 (f+4) (by omega),lR,Za (by omega),Za (by omega),Zf h3];exact Jh u _ _ _ hg.2.1 (by omega) (by omega)
 .refine .inr ⟨h3,?_⟩;rw[<-h.2 (u.size+1) (by omega),lR,Za (by omega),Za (by omega),Za h3]
theorem agl(h:128<=gb u k)(hX:Zu (gb u k).toNat=X):X<256/\((X%8=1/\et u k (-1)=(k,(k:O))) \/
 ((X%8=2\/X%8=3\/X%8=4)/\128<=Zk (X/16)/\et u k (-1)=gD u (X%8-1) (Zk (X/16)) (Zm (X/16)) (k+1))):=by
 have hb:=iN u k;rw[<-T4 (by omega),iU,Hb (by omega)];obtain⟨c,hc⟩:∃c:Zc,gb u k=c:=⟨(gb u k).toNat,by omega⟩
 rw[hc]at h hb hX⊢;rw[ZH,Zu]at hX;rcases CJ (c:=(c:O))with⟨g,e⟩|⟨g,g',e⟩|⟨g,g',e⟩|⟨g,e⟩|⟨g,e⟩|⟨g,g',g3,e⟩|⟨g,e⟩|⟨g,g',e⟩|⟨g,e⟩|⟨g,e⟩
 .omega
 .rw[Za (by omega),Zf (by omega)]at hX;subst hX;rw[e];exact⟨by decide,.inl ⟨rfl,rfl⟩⟩
 .rw[Za (by omega),Za (by omega),Zf (by omega)]at hX;subst hX;rw[e];exact⟨by decide,.inr ⟨by decide,by decide,rfl⟩⟩
 .obtain rfl:c=224:=by omega
  subst hX;rw[e];exact⟨by decide,.inr ⟨by decide,by decide,rfl⟩⟩
 .obtain rfl:c=237:=by omega
  subst hX;rw[e];exact⟨by decide,.inr ⟨by decide,by decide,rfl⟩⟩
 .have:X=3:=by
   rw[Za (by omega),Za (by omega),Za (by omega),Za (by omega)]at hX;rcases(show c<237\/237<c from by omega)with q|q
   .rw[Zf q]at hX;omega
   .rw[Za (by omega),Za (by omega),Zf (by omega)]at hX;omega
  subst this;rw[e];exact⟨by decide,.inr ⟨by decide,by decide,rfl⟩⟩
 .obtain rfl:c=240:=by omega
  subst hX;rw[e];exact⟨by decide,.inr ⟨by decide,by decide,rfl⟩⟩
 .rw[Za (by omega),Za (by omega),Za (by omega),Za (by omega),Za (by omega),Za (by omega),Za (by omega),Za (by omega),Zf (by omega)]at hX;subst hX;rw[e];exact⟨by decide,.inr ⟨by decide,by decide,rfl⟩⟩
 .obtain rfl:c=244:=by omega
  subst hX;rw[e];exact⟨by decide,.inr ⟨by decide,by decide,rfl⟩⟩
 .rw[Za (by omega),Za (by omega),Za (by omega),Za (by omega),Za (by omega),Za (by omega),Za (by omega),Za (by omega),Za (by omega),Za (by omega)]at hX;subst hX;rw[e];exact⟨by decide,.inl ⟨rfl,rfl⟩⟩
def pB(u:Zh)(k:Zc):Zc:=Lib.leNat [(gb u k).toNat.toUInt8,(gb u (k+1)).toNat.toUInt8,(gb u (k+2)).toNat.toUInt8,(gb u (k+3)).toNat.toUInt8,(gb u (k+4)).toNat.toUInt8,(gb u (k+5)).toNat.toUInt8,(gb u (k+6)).toNat.toUInt8,(gb u (k+7)).toNat.toUInt8]
theorem wC(h:0<=gb u k):(((gb u k).toNat.toUInt8).toNat:O)=gb u k:=by
 have hb:=iN u k;rw[UInt8.toNat_ofNat'];omega
theorem As(u:Zh)(k:Zc):pB u k<18446744073709551616:=by
 have h:=Lib.leNat_lt [(gb u k).toNat.toUInt8,(gb u (k+1)).toNat.toUInt8,(gb u (k+2)).toNat.toUInt8,(gb u (k+3)).toNat.toUInt8,(gb u (k+4)).toNat.toUInt8,(gb u (k+5)).toNat.toUInt8,(gb u (k+6)).toNat.toUInt8,(gb u (k+7)).toNat.toUInt8];simpa[pB]using h
theorem Aq(hk:k+8<=u.size)(h:pB u k &&& 9259542123273814144=0):∀i,i<8->0<=gb u (k+i)/\gb u (k+i)<128:=by
 rw[pB,<-Lib.maskN8]at h;have hm:=(Lib.leNat_mask _).1 h;intro i hi;have h0:0<=gb u (k+i):=by rw[pR (by omega)];omega
 refine⟨h0,?_⟩;have hu:=wC h0;have:((gb u (k+i)).toNat.toUInt8).toNat<128:=by
  apply hm
  match i,hi with
  |0,_=>simp
  |1,_=>simp
  |2,_=>simp
  |3,_=>simp
  |4,_=>simp
  |5,_=>simp
  |6,_=>simp
  |7,_=>simp
 omega
def At(w:Zn)(g:Zc)(u:Zh):Prop:=∀k,k<u.size->w.cell? ⟨g,k,Zd⟩=Zb (.int .u8 (gb u k))
theorem ah9(u:Zh)(g k m c:Zc)(w:Zn)(hs:u.size<=100000)(hb:At w g u)(hk:k+8<=u.size)(hm:8<=m)(hmc:m<=c)(o9:m<=100000):
 Calls prog 219 #[.slice (Zb ⟨g,k,Zd⟩) m c] w λe w'=>e=.returned (.int .u64 (pB u k:Zc))/\∃q,w'=w.drewN q:=by
 have y0:=hb k (by omega);have y1:=hb (k+1) (by omega);have y2:=hb (k+2) (by omega);have y3:=hb (k+3) (by omega);have y4:=hb (k+4) (by omega);have y5:=hb (k+5) (by omega);have y6:=hb (k+6) (by omega);have y7:=hb (k+7) (by omega);have b0:=iN u k;have b1:=iN u (k+1);have b2:=iN u (k+2);have b3:=iN u (k+3);have b4:=iN u (k+4);have b5:=iN u (k+5);have b6:=iN u (k+6);have b7:=iN u (k+7);have n:∀j,k+j<u.size->0<=gb u (k+j):=λj hj=>by rw[pR hj];omega
 have n0:=n 0 (by omega);have n1:=n 1 (by omega);have n2:=n 2 (by omega);have n3:=n 3 (by omega);have n4:=n 4 (by omega);have n5:=n 5 (by omega);have n6:=n 6 (by omega);have n7:=n 7 (by omega);have hv:((pB u k:Zc):O)=gb u k+gb u (k+1)*256+gb u (k+2)*65536+gb u (k+3)*16777216+gb u (k+4)*4294967296+gb u (k+5)*1099511627776+gb u (k+6)*281474976710656+gb u (k+7)*72057594037927936:=by
  have e0:=wC n0;have e1:=wC n1;have e2:=wC n2;have e3:=wC n3;have e4:=wC n4;have e5:=wC n5;have e6:=wC n6;have e7:=wC n7;simp only[pB,Lib.leNat];simp only[ZK]at e0;omega
 rw[hv];rw[ZK]at n0;have HS:=aa hs;have q0:(0:O)<(m:O):=by omega
 have q1:(1:O)<(m:O):=by omega
 have q2:(2:O)<(m:O):=by omega
 have q3:(3:O)<(m:O):=by omega
 have q4:(4:O)<(m:O):=by omega
 have q5:(5:O)<(m:O):=by omega
 have q6:(6:O)<(m:O):=by omega
 have q7:(7:O)<(m:O):=by omega
 clear hv hb n;obtain⟨x0,es⟩:∃x,gb u k=x:=⟨_,rfl⟩
 obtain⟨x1,gX⟩:∃x,gb u (k+1)=x:=⟨_,rfl⟩
 obtain⟨x2,lP⟩:∃x,gb u (k+2)=x:=⟨_,rfl⟩
 obtain⟨x3,tk⟩:∃x,gb u (k+3)=x:=⟨_,rfl⟩
 obtain⟨x4,SQ⟩:∃x,gb u (k+4)=x:=⟨_,rfl⟩
 obtain⟨x5,oe⟩:∃x,gb u (k+5)=x:=⟨_,rfl⟩
 obtain⟨x6,SR⟩:∃x,gb u (k+6)=x:=⟨_,rfl⟩
 obtain⟨x7,SS⟩:∃x,gb u (k+7)=x:=⟨_,rfl⟩
 rw[es]at y0 b0 n0⊢;rw[gX]at y1 b1 n1⊢;rw[lP]at y2 b2 n2⊢;rw[tk]at y3 b3 n3⊢;rw[SQ]at y4 b4 n4⊢;rw[oe]at y5 b5 n5⊢;rw[SR]at y6 b6 n6⊢;rw[SS]at y7 b7 n7⊢;clear es gX lP tk SQ oe SR SS;go_enter func219,ntmps219;go_wp2;go_quiet (fail);go_wp2;go_ret;refine⟨?_,_,rfl⟩;simp (disch:=omega) only[u64_or8,u64_or16,u64_or24,u64_or32,u64_or40,u64_or48,u64_or56]
 rfl
theorem At.below{w':Zn}(h:At w g u)(hb:Zj w.heap.size w w'):At w' g u:=λk hk=>by
 have h1:=h k hk;exact lm h1 (hb.block g (qA h1))
theorem jI{B:Zc}{a:Zn}(h:Zj B a w)(q:Zc):Zj B a (w.drewN q):=⟨h.os,h.tape,h.output,h.size,h.block⟩
theorem agZ:∀X:Fin 256,bits .and .u8 ((X.val:Zc):O) 7=((X.val%8:Zc):O):=by decide
theorem yT{v:Value}(h:w.cell? ⟨g,k,Zd⟩=Zb v)(o:Obj):(w.alloc o).cell? ⟨g,k,Zd⟩=Zb v:=lm h (Zj.heap_alloc _ _ _ (qA h))
theorem ajX(h:nL u k R)(h1:128<=gb u k)(hX:Zu (gb u k).toNat=X):
 X<256/\((X%8=2\/X%8=3\/X%8=4)->128<=Zk (X/16)) /\
 (X%8=2->if Zk (X/16)<=gb u (k+1)/\gb u (k+1)<=Zm (X/16)then nL u (k+2) R else R=Zg) /\
 (X%8=3->if(Zk (X/16)<=gb u (k+1)/\gb u (k+1)<=Zm (X/16))/\128<=gb u (k+2)/\gb u (k+2)<=191 then nL u (k+3) R else R=Zg) /\
 (X%8=4->if(Zk (X/16)<=gb u (k+1)/\gb u (k+1)<=Zm (X/16))/\(128<=gb u (k+2)/\gb u (k+2)<=191)/\128<=gb u (k+3)/\gb u (k+3)<=191 then nL u (k+4) R else R=Zg) /\
 (X%8≠2->X%8≠3->X%8≠4->R=Zg):=by
 obtain⟨hx,hf⟩:=agl h1 hX;have hm:=ajY h h1;refine⟨hx,λe=>?_,λe=>?_,λe=>?_,λe=>?_,λe2 e3 e4=>?_⟩
 .rcases hf with⟨q,_⟩|⟨_,q,_⟩
  .omega
  .exact q
 .rcases hf with⟨q,_⟩|⟨_,q,hc⟩
  .omega
  rw[e,show gD u (2-1) _ _ _=_ from t9 u 0 _ _ (by omega)]at hc;rw[hc]at hm;by_cases c1:(Zk (X/16):O)<=gb u (k+1)/\gb u (k+1)<=(Zm (X/16):O)
  .rw[Zf c1]at hm⊢;exact(hm.resolve_right (λq=>q.1 (by rw[gD];show(-1:O)<0;decide))).2
  .rw[Za c1]at hm⊢;exact(hm.resolve_left (λq=>by have:=q.1;simp only at this;omega)).2
 .rcases hf with⟨q,_⟩|⟨_,q,hc⟩
  .omega
  rw[e,show gD u (3-1) _ _ _=_ from t9 u 1 _ _ (by omega),show gD u 1 _ _ _=_ from t9 u 0 _ _ (by omega)]at hc;rw[hc]at hm;by_cases c1:(Zk (X/16):O)<=gb u (k+1)/\gb u (k+1)<=(Zm (X/16):O)
  .rw[Zf c1]at hm;by_cases c2:128<=gb u (k+2)/\gb u (k+2)<=191
   .rw[Zf c2]at hm;rw[Zf ⟨c1,c2⟩];exact(hm.resolve_right (λq=>q.1 (by rw[gD];show(-1:O)<0;decide))).2
   .rw[Za c2]at hm;rw[Za (λq=>c2 q.2)];exact(hm.resolve_left (λq=>by have:=q.1;simp only at this;omega)).2
  .rw[Za c1]at hm;rw[Za (λq=>c1 q.1)];exact(hm.resolve_left (λq=>by have:=q.1;simp only at this;omega)).2
 .rcases hf with⟨q,_⟩|⟨_,q,hc⟩
  .omega
  rw[e,show gD u (4-1) _ _ _=_ from t9 u 2 _ _ (by omega),show gD u 2 _ _ _=_ from t9 u 1 _ _ (by omega),show gD u 1 _ _ _=_ from t9 u 0 _ _ (by omega)]at hc;rw[hc]at hm;by_cases c1:(Zk (X/16):O)<=gb u (k+1)/\gb u (k+1)<=(Zm (X/16):O)
  .rw[Zf c1]at hm;by_cases c2:128<=gb u (k+2)/\gb u (k+2)<=191
   .rw[Zf c2]at hm;by_cases c3:128<=gb u (k+3)/\gb u (k+3)<=191
    .rw[Zf c3]at hm;rw[Zf ⟨c1,c2,c3⟩];exact(hm.resolve_right (λq=>q.1 (by rw[gD];show(-1:O)<0;decide))).2
    .rw[Za c3]at hm;rw[Za (λq=>c3 q.2.2)];exact(hm.resolve_left (λq=>by have:=q.1;simp only at this;omega)).2
   .rw[Za c2]at hm;rw[Za (λq=>c2 q.2.1)];exact(hm.resolve_left (λq=>by have:=q.1;simp only at this;omega)).2
  .rw[Za c1]at hm;rw[Za (λq=>c1 q.1)];exact(hm.resolve_left (λq=>by have:=q.1;simp only at this;omega)).2
 .rcases hf with⟨q,hc⟩|⟨q,_⟩
  .rw[hc]at hm;exact(hm.resolve_left (λq=>by have:=q.1;simp only at this;omega)).2
  .omega
theorem ah2(u:Zh)(g c:Zc)(w:Zn)(hs:u.size<=1000)(hT:kE w)(hb:At w g u)(hc:u.size<=c):
 Calls prog 184 #[.slice (Zb ⟨g,0,Zd⟩) u.size c] w λe w'=>e=.returned (.bool (pz u))/\Zj w.heap.size w w':=by
 obtain⟨R,hR⟩:∃R,R=pz u:=⟨_,rfl⟩
 have HV:XX (nL u 0 R):=by show nL _ _ _;rw[hR];exact ajV u
 rw[<-hR];have HT:=aa hT;have yb:=aa hb;have RB:(u.size:O)<=(c:O):=by omega
 have CW:XX (∀k m,k+m=u.size->8<=m->∀W,Zj w.heap.size w W->Calls prog 219 #[.slice (Zb ⟨g,k,Zd⟩) m m] W λe w'=>e=.returned (.int .u64 (pB u k:Zc))/\∃q,w'=W.drewN q):=λk m h1 h2 W hW=>ah9 u g k m m W (by omega) (hb.below hW) (by omega) (by omega) (by omega) (by omega)
 clear hR hT hb;have mixed:prog.follows Departure.mixedOrders=Zl:=by kernel_rfl
 go_enter func184,ntmps184;go_wp2;go_loopg [0] (u.size+1) (λgh s0 wx=>∃k m o,s0=.slice (Zb ⟨g,o,Zd⟩) m m/\(m=0\/o=k)/\k+m=u.size/\Zj w.heap.size w wx/\nL u k R/\m<gh)
 case atStart=>exact⟨0,u.size,0,rfl,.inr rfl,by omega,Zj.refl _ _,HV.o,by omega⟩
 case round=>
  obtain⟨k,m,o,rfl,ho,kO,ed,hv,hg⟩:=hrel;have HB:=aa ed;have J9:=aa hv;clear ed hv HV;rcases(show m=0\/0<m from by omega)with rfl|hm
  .have eJ:R=Zl:=ajW (u:=u) (by rw[<-kO];exact J9.o);subst eJ;go_wp2;go_ret;exact⟨rfl,HB.o⟩
  .obtain rfl:o=k:=by omega
   clear ho;obtain⟨g',rfl⟩:∃g',gk=g'+1:=⟨gk-1,by omega⟩
   have h0z:(0:O)<(m:O):=by omega
   have ye:=aa (yb.o.below HB.o);have y0:=ye.o o (by omega);obtain⟨c0,fW⟩:∃c0,c0=gb u o:=⟨_,rfl⟩
   have dN:=aa fW;have bF:=iN u o;have Rr:0<=gb u o:=by rw[pR (by omega)];omega
   rw[<-fW]at y0 bF Rr;clear fW;by_cases hasc:c0<128
   .have DG:=aa (Vi J9.o (by rw[<-dN.o];exact Rr) (by rw[<-dN.o];exact hasc));obtain⟨m1,rfl⟩:∃m1,m=m1+1:=⟨m-1,by omega⟩
    rcases(show m1=0\/(0<m1/\m1<=8)\/8<m1 from by omega)with rfl|⟨zB,h8⟩|h8
    .go_wp2;go_roundg g'
     case measure=>omega
     case rel=>exact⟨o+1,0,_,rfl,.inl rfl,by omega,HB.o,DG.o,by omega⟩
    .have h8z:¬((8:O)<(m1:O)):=by omega
     go_wp2;go_roundg g'
     case measure=>omega
     case rel=>exact⟨o+1,m1,_,rfl,.inr rfl,by omega,HB.o,DG.o,by omega⟩
    .as_aux_lemma=>
      have h8z:(8:O)<(m1:O):=by omega
      have yC:=aa (CW.o (o+1) m1 (by omega) (by omega) wr HB.o);have lA1:=As u (o+1);have F1:=aa (Aq (u:=u) (k:=o+1) (by omega));obtain⟨A1,QM⟩:∃A1,pB u (o+1)=A1:=⟨_,rfl⟩
      rw[QM]at yC lA1 F1;have Rh:bits .and .u64 (A1:O) 9259542123273814144=((A1 &&& 9259542123273814144:Zc):O):=u64_and_nat A1 9259542123273814144 lA1 (by omega);obtain⟨Z1,Rd⟩:∃Z1,A1 &&& 9259542123273814144=Z1:=⟨_,rfl⟩
      rw[Rd]at Rh F1;clear QM Rd;by_cases ee:Z1=0
      .have SY:((Z1:O)==0)=Zl:=by simp[ee]
       have AT:=aa (xW 8 DG.o (F1.o ee));obtain⟨m2,rfl⟩:∃m2,m1=m2+8:=⟨m1-8,by omega⟩
       go_wp2_with fail;refine ZG yC.o ?_;rintro e W1 ⟨rfl,q1,rfl⟩;have aT:=aa (jI HB.o q1);obtain⟨wq,SP⟩:∃wq,wq=wr.drewN q1:=⟨_,rfl⟩
       rw[<-SP]at aT⊢;clear SP yC F1 y0;rcases(show m2<=16\/16<m2 from by omega)with xi|xi
       .have c16z:¬((16:O)<(m2:O)):=by omega
        have c16b:decide ((16:O)<(m2:O))=Zg:=ZN c16z;go_wp2_with fail
        go_big_quiet_o (fail)
        go_wp2;go_roundg g'
        case measure=>omega
        case rel=>exact⟨o+1+8,m2,_,rfl,.inr rfl,by omega,jI aT.o _,AT.o,by omega⟩
       .obtain⟨m3,rfl⟩:∃m3,m2=m3+16:=⟨m2-16,by omega⟩
        have c16z:(16:O)<(m3:O)+16:=by omega
        have h3z:(0:O)<(m3:O):=by omega
        have cW2:=λW hW=>CW.o (o+1+8) (m3+16) (by omega) (by omega) W hW
        have cW3:=λW hW=>CW.o (o+1+8+8) (m3+8) (by omega) (by omega) W hW
        have lA2:=As u (o+1+8);have lA3:=As u (o+1+8+8);have Jx:=aa (Aq (u:=u) (k:=o+1+8) (by omega));have Jy:=aa (Aq (u:=u) (k:=o+1+8+8) (by omega));obtain⟨A2,QN⟩:∃A,pB u (o+1+8)=A:=⟨_,rfl⟩
        obtain⟨A3,QO⟩:∃A,pB u (o+1+8+8)=A:=⟨_,rfl⟩
        rw[QN]at cW2 lA2 Jx;rw[QO]at cW3 lA3 Jy;clear QN QO;have Sc:bits .or .u64 (A2:O) (A3:O)=((A2 ||| A3:Zc):O):=u64_or_nat A2 A3 lA2 lA3;have Lp:bits .and .u64 ((A2 ||| A3:Zc):O) 9259542123273814144=(((A2 ||| A3) &&& 9259542123273814144:Zc):O):=u64_and_nat _ 9259542123273814144 (Zx (n:=64) lA2 lA3) (by omega);have oR:XX ((A2 ||| A3) &&& 9259542123273814144=0->nL u (o+1+8+8+8) R):=λh0=>xW 8 (xW 8 AT.o (Jx.o ((Zv _ _ _).1 h0).1)) (Jy.o ((Zv _ _ _).1 h0).2)
        obtain⟨O2,QZ⟩:∃O2,A2 ||| A3=O2:=⟨_,rfl⟩
        rw[QZ]at Sc Lp oR;obtain⟨Z2,Re⟩:∃Z2,O2 &&& 9259542123273814144=Z2:=⟨_,rfl⟩
        rw[Re]at Lp oR;clear QZ Re Jx Jy;by_cases dP:Z2=0
        .have S0:((Z2:O)==0)=Zl:=by simp[dP]
         have DH:=aa (oR.o dP);go_wp2_with fail
         go_big_quiet_o (first|(go_at_call 219;with_reducible refine Zi (cW2 _ (jI aT.o _)))|(go_at_call 219;with_reducible refine Zi (cW3 _ (jI aT.o _))))
         have aY:XX (∀q,Zj w.heap.size w (wq.drewN q)):=λq=>jI aT.o q
         go_wp2;go_loopg [0] (m3+1) (λg2 s0 wx=>∃k1 m4,s0=.slice (Zb ⟨g,k1,Zd⟩) m4 m4/\0<m4/\k1+m4=u.size/\Zj w.heap.size w wx/\nL u k1 R/\m4<g2/\m4<=m3)
         case atStart=>exact⟨o+1+8+8+8,m3,rfl,by omega,by omega,aY.o _,DH.o,by omega,by omega⟩
         case round=>
          obtain⟨k1,m4,rfl,hm4,amc,aB,Ci,ET,amf⟩:=hrel;have bq:=aa aB;have DI:=aa Ci;clear aB Ci aY DH AT DG cW2 cW3 Sc Lp S0 SY Rh oR;rcases(show m4<=32\/32<m4 from by omega)with iA|iA
          .have c32z:¬((32:O)<(m4:O)):=by omega
           have c32b:decide ((32:O)<(m4:O))=Zg:=ZN c32z;go_wp2_with fail
           go_big_quiet_o (fail)
           go_wp2;go_roundg g'
           case measure=>omega
           case rel=>exact⟨k1,m4,_,rfl,.inr rfl,by omega,jI bq.o _,DI.o,by omega⟩
          .obtain⟨g3,rfl⟩:∃g3,gk=g3+1:=⟨gk-1,by omega⟩
           obtain⟨m5,rfl⟩:∃m5,m4=m5+32:=⟨m4-32,by omega⟩
           have c32z:(32:O)<(m5:O)+32:=by omega
           have h5z:(0:O)<(m5:O):=by omega
           have cV0:=λW hW=>CW.o k1 (m5+32) (by omega) (by omega) W hW
           have cV1:=λW hW=>CW.o (k1+8) (m5+24) (by omega) (by omega) W hW
           have cV2:=λW hW=>CW.o (k1+16) (m5+16) (by omega) (by omega) W hW
           have cV3:=λW hW=>CW.o (k1+24) (m5+8) (by omega) (by omega) W hW
           have l0:=As u k1;have l1:=As u (k1+8);have l2:=As u (k1+16);have l3:=As u (k1+24);have s0:=Aq (u:=u) (k:=k1) (by omega);have s1:=Aq (u:=u) (k:=k1+8) (by omega);have s2:=Aq (u:=u) (k:=k1+16) (by omega);have s3:=Aq (u:=u) (k:=k1+24) (by omega);obtain⟨B0,pT⟩:∃A,pB u k1=A:=⟨_,rfl⟩
           obtain⟨B1,dX⟩:∃A,pB u (k1+8)=A:=⟨_,rfl⟩
           obtain⟨B2,bZ⟩:∃A,pB u (k1+16)=A:=⟨_,rfl⟩
           obtain⟨B3,jW⟩:∃A,pB u (k1+24)=A:=⟨_,rfl⟩
           rw[pT]at cV0 l0 s0;rw[dX]at cV1 l1 s1;rw[bZ]at cV2 l2 s2;rw[jW]at cV3 l3 s3;clear pT dX bZ jW;have ho1:bits .or .u64 (B0:O) (B1:O)=((B0 ||| B1:Zc):O):=u64_or_nat B0 B1 l0 l1;have ho2:bits .or .u64 (B2:O) (B3:O)=((B2 ||| B3:Zc):O):=u64_or_nat B2 B3 l2 l3;have lo1:B0 ||| B1<18446744073709551616:=Zx (n:=64) l0 l1
           have lo2:B2 ||| B3<18446744073709551616:=Zx (n:=64) l2 l3
           have E4:bits .or .u64 ((B0 ||| B1:Zc):O) ((B2 ||| B3:Zc):O)=(((B0 ||| B1) ||| (B2 ||| B3):Zc):O):=u64_or_nat _ _ lo1 lo2;have Lq:bits .and .u64 (((B0 ||| B1) ||| (B2 ||| B3):Zc):O) 9259542123273814144=((((B0 ||| B1) ||| (B2 ||| B3)) &&& 9259542123273814144:Zc):O):=u64_and_nat _ 9259542123273814144 (Zx (n:=64) lo1 lo2) (by omega);have tH:XX (((B0 ||| B1) ||| (B2 ||| B3)) &&& 9259542123273814144=0->nL u (k1+8+8+8+8) R):=λh0=>by
            obtain⟨e01,e23⟩:=(Zv _ _ _).1 h0;obtain⟨e0,e1⟩:=(Zv _ _ _).1 e01;obtain⟨e2,e3⟩:=(Zv _ _ _).1 e23;exact xW 8 (xW 8 (xW 8 (xW 8 DI.o (s0 e0)) (s1 e1)) (s2 e2)) (s3 e3)
           obtain⟨P1,Le⟩:∃P1,B0 ||| B1=P1:=⟨_,rfl⟩
           obtain⟨P2,Lg⟩:∃P2,B2 ||| B3=P2:=⟨_,rfl⟩
           rw[Le,Lg]at E4 Lq tH;rw[Le]at ho1;rw[Lg]at ho2;obtain⟨P3,Q3⟩:∃P3,P1 ||| P2=P3:=⟨_,rfl⟩
           rw[Q3]at E4 Lq tH;obtain⟨Z3,Rf⟩:∃Z3,P3 &&& 9259542123273814144=Z3:=⟨_,rfl⟩
           rw[Rf]at Lq tH;clear s0 s1 s2 s3 lo1 lo2 Le Lg Q3 Rf;by_cases ux:Z3=0
           .have afo:((Z3:O)==0)=Zl:=by simp[ux]
            have tQ:=aa (tH.o ux);go_wp2_with fail
            go_big_quiet_o (first|(go_at_call 219;with_reducible refine Zi (cV0 _ (jI bq.o _)))|(go_at_call 219;with_reducible refine Zi (cV1 _ (jI bq.o _)))|(go_at_call 219;with_reducible refine Zi (cV2 _ (jI bq.o _)))|(go_at_call 219;with_reducible refine Zi (cV3 _ (jI bq.o _))))
            go_wp2;go_roundg g3
            case measure=>omega
            case rel=>exact⟨k1+32,m5,rfl,by omega,by omega,jI bq.o _,tQ.o,by omega,by omega⟩
           .have afo:((Z3:O)==0)=Zg:=by simp;omega
            go_wp2_with fail
            go_big_quiet_o (first|(go_at_call 219;with_reducible refine Zi (cV0 _ (jI bq.o _)))|(go_at_call 219;with_reducible refine Zi (cV1 _ (jI bq.o _)))|(go_at_call 219;with_reducible refine Zi (cV2 _ (jI bq.o _)))|(go_at_call 219;with_reducible refine Zi (cV3 _ (jI bq.o _))))
            go_wp2;go_roundg g'
            case measure=>omega
            case rel=>exact⟨k1,m5+32,_,rfl,.inr rfl,by omega,jI bq.o _,DI.o,by omega⟩
        .have S0:((Z2:O)==0)=Zg:=by simp;omega
         go_wp2_with fail
         go_big_quiet_o (first|(go_at_call 219;with_reducible refine Zi (cW2 _ (jI aT.o _)))|(go_at_call 219;with_reducible refine Zi (cW3 _ (jI aT.o _))))
         go_wp2;go_roundg g'
         case measure=>omega
         case rel=>exact⟨o+1+8,m3+16,_,rfl,.inr rfl,by omega,jI aT.o _,AT.o,by omega⟩
      .have SY:((Z1:O)==0)=Zg:=by simp;omega
       go_wp2_with fail;refine ZG yC.o ?_;rintro e W1 ⟨rfl,q1,rfl⟩;go_wp2;go_roundg g'
       case measure=>omega
       case rel=>exact⟨o+1,m1,_,rfl,.inr rfl,by omega,jI HB.o _,DG.o,by omega⟩
   .have um:128<=c0:=by omega
    obtain⟨cn,BE⟩:∃cn:Zc,c0=cn:=⟨c0.toNat,by omega⟩
    have Hl:=HT.o;have aec:wr.cell? ⟨8,cn,Zd⟩=Zb (.int .u8 (Zu cn)):=(Utf8Tabs_below Hl HB.o).1 cn (by omega);subst BE;obtain⟨X,hX⟩:∃X,Zu cn=X:=⟨_,rfl⟩
    rw[hX]at aec;have hld:=ajX (X:=X) J9.o (by rw[<-dN.o];exact um) (by rw[<-dN.o,ZH];exact hX);obtain⟨adr,ik,rH,Hz,H8,gG⟩:=hld;have h7:=agZ ⟨X,adr⟩;simp only at h7;have Lm:wr.cell? ⟨9,X/16*2,Zd⟩=Zb (.int .u8 (Zk (X/16))):=by rw[ZL];exact((Utf8Tabs_below Hl HB.o).2 (X/16) (by omega)).1
    have Ln:wr.cell? ⟨9,X/16*2+1,Zd⟩=Zb (.int .u8 (Zm (X/16))):=by rw[ZL];exact((Utf8Tabs_below Hl HB.o).2 (X/16) (by omega)).2
    obtain⟨LO,QY⟩:∃LO,Zk (X/16)=LO:=⟨_,rfl⟩
    obtain⟨HI,QV⟩:∃HI,Zm (X/16)=HI:=⟨_,rfl⟩
    rw[QY]at Lm ik rH Hz H8;rw[QV]at Ln rH Hz H8;have pH:=aa rH;have ld:=aa Hz;have Dp:=aa H8;have sk:=aa gG;have yr:=aa ik;have fU:XX (∀o q,Zj w.heap.size w ((wr.alloc o).drewN q)):=λo q=>jI (HB.o.alloc HB.o.size _) q
    clear Hl hX QY QV rH Hz H8 gG ik;by_cases s2:X%8=2
    .as_aux_lemma=>
      have Q6:(X:O)%8=2:=by omega
      have HL:=aa (pH.o s2);have QI:=yr.o (by omega);clear sk pH ld Dp yr CW
      go_upto_region 18 with fail
      rcases(show m<2\/2<=m from by omega)with q0|q0
      .have q0z:(m:O)<2:=by omega
       have hn:gb u (o+m)=-1:=nS (by omega);have dU:R=Zg:=by
        have hl:=HL.o;by_cases z1:m=1
        .subst z1;rw[Za (λq=>by omega)]at hl;exact hl
        omega
       subst dU
       go_big_quiet_o (fail)
       go_wp2
       all_goals (go_ret;exact⟨rfl,fU.o _ _⟩)
      .have q0z:¬((m:O)<2):=by omega
       have ee:(1:O)<(m:O):=by omega
       have y1:∀o2,(wr.alloc o2).cell? ⟨g,o+1,Zd⟩=Zb (.int .u8 (gb u (o+1))):=λo2=>yT (ye.o (o+1) (by omega)) o2
       have b1:=iN u (o+1);have n1:0<=gb u (o+1):=by rw[pR (by omega)];omega
       obtain⟨x1,gX⟩:∃x,gb u (o+1)=x:=⟨_,rfl⟩
       rw[gX]at y1 b1 n1 HL;clear gX;by_cases q1:x1<(LO:O)
       .have dU:=HL.o;rw[Za (λq=>by omega)]at dU;subst dU
        go_big_quiet_o (fail)
        go_wp2
        all_goals (go_ret;exact⟨rfl,fU.o _ _⟩)
       by_cases q2:(HI:O)<x1
       .have dU:=HL.o;rw[Za (λq=>by omega)]at dU;subst dU
        go_big_quiet_o (fail)
        go_wp2
        all_goals (go_ret;exact⟨rfl,fU.o _ _⟩)
       have hV:=HL.o;rw[Zf ⟨by omega,by omega⟩]at hV;have tQ:=aa hV;clear hV HL;obtain⟨m6,rfl⟩:∃m6,m=m6+2:=⟨m-2,by omega⟩
       rcases(show m6=0\/0<m6 from by omega)with rfl|h6
       .go_big_quiet_o (fail)
        go_wp2;go_roundg g'
        case measure=>omega
        case rel=>exact⟨o+2,0,_,rfl,.inl rfl,by omega,fU.o _ _,tQ.o,by omega⟩
       .have q0y:¬((m6:O)+2<2):=by omega
        have w1:(1:O)<(m6:O)+2:=by omega
        have QK:(0:O)<(m6:O):=by omega
        go_big_quiet_o (fail)
        go_wp2;go_roundg g'
        case measure=>omega
        case rel=>exact⟨o+2,m6,_,rfl,.inr rfl,by omega,fU.o _ _,tQ.o,by omega⟩
    by_cases s3:X%8=3
    .as_aux_lemma=>
      have Q6:(X:O)%8=3:=by omega
      have HL:=aa (ld.o s3);have QI:=yr.o (by omega);clear sk pH ld Dp yr CW
      go_upto_region 22 with fail
      rcases(show m<3\/3<=m from by omega)with q0|q0
      .have q0z:(m:O)<3:=by omega
       have hn:gb u (o+m)=-1:=nS (by omega);have dU:R=Zg:=by
        have hl:=HL.o;by_cases z1:m=1
        .subst z1;rw[Za (λq=>by omega)]at hl;exact hl
        by_cases z2:m=2
        .subst z2;rw[Za (λq=>by omega)]at hl;exact hl
        omega
       subst dU
       go_big_quiet_o (fail)
       go_wp2
       all_goals (go_ret;exact⟨rfl,fU.o _ _⟩)
      .have q0z:¬((m:O)<3):=by omega
       have ee:(1:O)<(m:O):=by omega
       have y1:∀o2,(wr.alloc o2).cell? ⟨g,o+1,Zd⟩=Zb (.int .u8 (gb u (o+1))):=λo2=>yT (ye.o (o+1) (by omega)) o2
       have b1:=iN u (o+1);have n1:0<=gb u (o+1):=by rw[pR (by omega)];omega
       have dP:(2:O)<(m:O):=by omega
       have y2:∀o2,(wr.alloc o2).cell? ⟨g,o+2,Zd⟩=Zb (.int .u8 (gb u (o+2))):=λo2=>yT (ye.o (o+2) (by omega)) o2
       have b2:=iN u (o+2);have n2:0<=gb u (o+2):=by rw[pR (by omega)];omega
       obtain⟨x1,gX⟩:∃x,gb u (o+1)=x:=⟨_,rfl⟩
       rw[gX]at y1 b1 n1 HL;clear gX;obtain⟨x2,lP⟩:∃x,gb u (o+2)=x:=⟨_,rfl⟩
       rw[lP]at y2 b2 n2 HL;clear lP;by_cases q1:x1<(LO:O)
       .have dU:=HL.o;rw[Za (λq=>by omega)]at dU;subst dU
        go_big_quiet_o (fail)
        go_wp2
        all_goals (go_ret;exact⟨rfl,fU.o _ _⟩)
       by_cases q2:(HI:O)<x1
       .have dU:=HL.o;rw[Za (λq=>by omega)]at dU;subst dU
        go_big_quiet_o (fail)
        go_wp2
        all_goals (go_ret;exact⟨rfl,fU.o _ _⟩)
       by_cases q3:x2<128
       .have dU:=HL.o;rw[Za (λq=>by omega)]at dU;subst dU
        go_big_quiet_o (fail)
        go_wp2
        all_goals (go_ret;exact⟨rfl,fU.o _ _⟩)
       by_cases q4:(191:O)<x2
       .have dU:=HL.o;rw[Za (λq=>by omega)]at dU;subst dU
        go_big_quiet_o (fail)
        go_wp2
        all_goals (go_ret;exact⟨rfl,fU.o _ _⟩)
       have hV:=HL.o;rw[Zf ⟨⟨by omega,by omega⟩,by omega,by omega⟩]at hV;have tQ:=aa hV;clear hV HL;obtain⟨m6,rfl⟩:∃m6,m=m6+3:=⟨m-3,by omega⟩
       rcases(show m6=0\/0<m6 from by omega)with rfl|h6
       .go_big_quiet_o (fail)
        go_wp2;go_roundg g'
        case measure=>omega
        case rel=>exact⟨o+3,0,_,rfl,.inl rfl,by omega,fU.o _ _,tQ.o,by omega⟩
       .have q0y:¬((m6:O)+3<3):=by omega
        have w1:(1:O)<(m6:O)+3:=by omega
        have w2:(2:O)<(m6:O)+3:=by omega
        have QK:(0:O)<(m6:O):=by omega
        go_big_quiet_o (fail)
        go_wp2;go_roundg g'
        case measure=>omega
        case rel=>exact⟨o+3,m6,_,rfl,.inr rfl,by omega,fU.o _ _,tQ.o,by omega⟩
    by_cases s4:X%8=4
    .as_aux_lemma=>
      have Q6:(X:O)%8=4:=by omega
      have HL:=aa (Dp.o s4);have QI:=yr.o (by omega);clear sk pH ld Dp yr CW
      go_upto_region 26 with fail
      rcases(show m<4\/4<=m from by omega)with q0|q0
      .have q0z:(m:O)<4:=by omega
       have hn:gb u (o+m)=-1:=nS (by omega);have dU:R=Zg:=by
        have hl:=HL.o;by_cases z1:m=1
        .subst z1;rw[Za (λq=>by omega)]at hl;exact hl
        by_cases z2:m=2
        .subst z2;rw[Za (λq=>by omega)]at hl;exact hl
        by_cases z3:m=3
        .subst z3;rw[Za (λq=>by omega)]at hl;exact hl
        omega
       subst dU
       go_big_quiet_o (fail)
       go_wp2
       all_goals (go_ret;exact⟨rfl,fU.o _ _⟩)
      .have q0z:¬((m:O)<4):=by omega
       have ee:(1:O)<(m:O):=by omega
       have y1:∀o2,(wr.alloc o2).cell? ⟨g,o+1,Zd⟩=Zb (.int .u8 (gb u (o+1))):=λo2=>yT (ye.o (o+1) (by omega)) o2
       have b1:=iN u (o+1);have n1:0<=gb u (o+1):=by rw[pR (by omega)];omega
       have dP:(2:O)<(m:O):=by omega
       have y2:∀o2,(wr.alloc o2).cell? ⟨g,o+2,Zd⟩=Zb (.int .u8 (gb u (o+2))):=λo2=>yT (ye.o (o+2) (by omega)) o2
       have b2:=iN u (o+2);have n2:0<=gb u (o+2):=by rw[pR (by omega)];omega
       have ux:(3:O)<(m:O):=by omega
       have y3:∀o2,(wr.alloc o2).cell? ⟨g,o+3,Zd⟩=Zb (.int .u8 (gb u (o+3))):=λo2=>yT (ye.o (o+3) (by omega)) o2
       have b3:=iN u (o+3);have n3:0<=gb u (o+3):=by rw[pR (by omega)];omega
       obtain⟨x1,gX⟩:∃x,gb u (o+1)=x:=⟨_,rfl⟩
       rw[gX]at y1 b1 n1 HL;clear gX;obtain⟨x2,lP⟩:∃x,gb u (o+2)=x:=⟨_,rfl⟩
       rw[lP]at y2 b2 n2 HL;clear lP;obtain⟨x3,tk⟩:∃x,gb u (o+3)=x:=⟨_,rfl⟩
       rw[tk]at y3 b3 n3 HL;clear tk;by_cases q1:x1<(LO:O)
       .have dU:=HL.o;rw[Za (λq=>by omega)]at dU;subst dU
        go_big_quiet_o (fail)
        go_wp2
        all_goals (go_ret;exact⟨rfl,fU.o _ _⟩)
       by_cases q2:(HI:O)<x1
       .have dU:=HL.o;rw[Za (λq=>by omega)]at dU;subst dU
        go_big_quiet_o (fail)
        go_wp2
        all_goals (go_ret;exact⟨rfl,fU.o _ _⟩)
       by_cases q3:x2<128
       .have dU:=HL.o;rw[Za (λq=>by omega)]at dU;subst dU
        go_big_quiet_o (fail)
        go_wp2
        all_goals (go_ret;exact⟨rfl,fU.o _ _⟩)
       by_cases q4:(191:O)<x2
       .have dU:=HL.o;rw[Za (λq=>by omega)]at dU;subst dU
        go_big_quiet_o (fail)
        go_wp2
        all_goals (go_ret;exact⟨rfl,fU.o _ _⟩)
       by_cases q5:x3<128
       .have dU:=HL.o;rw[Za (λq=>by omega)]at dU;subst dU
        go_big_quiet_o (fail)
        go_wp2
        all_goals (go_ret;exact⟨rfl,fU.o _ _⟩)
       by_cases q6:(191:O)<x3
       .have dU:=HL.o;rw[Za (λq=>by omega)]at dU;subst dU
        go_big_quiet_o (fail)
        go_wp2
        all_goals (go_ret;exact⟨rfl,fU.o _ _⟩)
       have hV:=HL.o;rw[Zf ⟨⟨by omega,by omega⟩,⟨by omega,by omega⟩,by omega,by omega⟩]at hV;have tQ:=aa hV;clear hV HL;obtain⟨m6,rfl⟩:∃m6,m=m6+4:=⟨m-4,by omega⟩
       rcases(show m6=0\/0<m6 from by omega)with rfl|h6
       .go_big_quiet_o (fail)
        go_wp2;go_roundg g'
        case measure=>omega
        case rel=>exact⟨o+4,0,_,rfl,.inl rfl,by omega,fU.o _ _,tQ.o,by omega⟩
       .have q0y:¬((m6:O)+4<4):=by omega
        have w1:(1:O)<(m6:O)+4:=by omega
        have w2:(2:O)<(m6:O)+4:=by omega
        have w3:(3:O)<(m6:O)+4:=by omega
        have QK:(0:O)<(m6:O):=by omega
        go_big_quiet_o (fail)
        go_wp2;go_roundg g'
        case measure=>omega
        case rel=>exact⟨o+4,m6,_,rfl,.inr rfl,by omega,fU.o _ _,tQ.o,by omega⟩
    .have dU:R=Zg:=sk.o s2 s3 s4;have e2b:(((X:O)%8)==2)=Zg:=by simp;omega
     have e3b:(((X:O)%8)==3)=Zg:=by simp;omega
     have e4b:(((X:O)%8)==4)=Zg:=by simp;omega
     have e2:¬((X:O)%8=2):=by omega
     have e3:¬((X:O)%8=3):=by omega
     have e4:¬((X:O)%8=4):=by omega
     subst dU;clear sk pH ld Dp yr CW;go_wp2
     all_goals (go_ret;exact⟨rfl,fU.o _ 0⟩)
end Go.Proofs.YtdlgkgfeoiohiaaGreatDoor
