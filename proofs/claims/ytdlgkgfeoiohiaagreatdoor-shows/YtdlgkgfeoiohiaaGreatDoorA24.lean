/- Part 24. -/
import Derived.Test.YtdlgkgfeoiohiaaGreatDoorA23
open Bool renaming false -> Za
open Go.Calls renaming mono -> Zc
open Go.Exit renaming normal -> Zi
open Go.RowKit.Below renaming heap_alloc -> Zg,refl -> Zh
open Go.World renaming cell? -> Zk
open Go.World.ownsRow renaming alloc -> Zl
open Nat renaming le_refl -> Zj
open Option renaming none -> O,some -> Zb
open Or renaming inr -> Zd,inl -> Zf
open _root_ renaming if_pos -> Ze,beq_eq_false_iff_ne -> Zm
namespace Go.Proofs.YtdlgkgfeoiohiaaGreatDoor
set_option linter.unusedVariables false
set_option maxHeartbeats 16000000
set_option maxRecDepth 100000
open Go.RowKit J Tryz
theorem KZ{w w':World}{o:Option Nat}(h:w.drew.grownBy w' o):w.grownBy w' o:=⟨h.os,h.tape,h.output,h.size,h.block⟩
theorem Qr(V:Nat->Prop)(b g cap:Nat)(T:List (aj×Nat))(d:Nat)(inn:bc)(hinn:qw V b g cap T d inn)(w:World)(i:Nat)(h:ax w V b g cap T i d (-1))(hV:∀m,V m->m<w.heap.size)(hs:ag T i wu=true):
 Calls prog 224 #[.pointer (Zb ⟨b,0,O⟩)] w (lD V b g cap T i d w (oj T inn i)):=by
 have aR:XX (b<w.heap.size):=al h.blk;have aV:XX (∀m,V m->m≠b):=h.v;have HV:=aa hV;have kl:=tz h hs;have iJ:XX (g<w.heap.size):=h.rowlt;have az:=h.len;have BG:d<=12:=by
  cases inn with
  |none=>have hd:d=12:=hinn;omega
  |some f=>have:=hinn.1;omega
 obtain⟨w1,dE⟩:∃w1,w1=w.alloc (bH fi 0 ⟨#[]⟩ (.slice O 0 0) (.slice O 0 0) 0 0 0 Za Za Za (.pointer O)):=⟨_,rfl⟩
 have aC:ax w1 V b g cap T i d (-1):=by rw[dE];exact h.alloc _
 have HD:=aa (Ea hinn aC kl);have lX:=aa hinn;have tK:XX (w1.heap[w.heap.size]?=Zb (bH fi 0 ⟨#[]⟩ (.slice O 0 0) (.slice O 0 0) 0 0 0 Za Za Za (.pointer O))):=by show _=_;rw[dE];exact aE rfl
 have aT:XX (ab b w w1):=by show ab _ _ _;rw[dE];exact(ab.refl b w).alloc _
 clear h hV hinn aC hs;subst dE;go_enter func224,ntmps224;go_wp2_with fail;refine Zc HD.o ?_;rintro e w2 ⟨rfl,ce,cP⟩;have hI:FZ V b g cap T i d (inn≠O) w w.heap.size (M5 T inn) (wg T inn i) T.length true w2:=by
  have dc:=(ce.block _ (al tK.o) (by intro e;injection e with e;have:=aR.o;omega)).trans tK.o;refine⟨aT.o.trans ce,al dc,.slice O 0 0,.slice O 0 0,[],[],[],dc,by simp,rfl,?_⟩;cases inn with
  |none=>exact Zd ⟨bE T i,i,rfl,cP.o⟩
  |some f=>exact Zf ⟨i+1,by simp,cP.o,kD.nil _ _ _ _,by omega,by rw[Ze rfl];exact⟨rfl,by omega⟩⟩
 have HI:=aa hI;clear ce cP hI;go_wp2_with fail;obtain⟨res,dD⟩:∃res,res=wg T inn i:=⟨_,rfl⟩
 rw[<-dD]at HI;have eY:XX (wg T inn i=res):=dD.symm;clear dD;go_loopg [4] T.length (λgh mv wr=>∃more,mv=.bool more/\FZ V b g cap T i d (inn≠O) w w.heap.size (M5 T inn) res gh more wr)
 case atStart=>exact⟨true,rfl,HI.o⟩
 case round=>
  obtain⟨more,rfl,aM,md,nsl,lsl,ks,l,ps,cd,em,dO,eo⟩:=hrel;have dI:=aa aM;have vV:w.heap.size<=wr.heap.size:=aM.size;cases more
  .have i9:=aa (M6 (i:=i) (inn:=inn) (ks:=ks) (l:=l) (ps:=ps) aR.o aV.o md cd (by
    rw[eY.o];rcases eo with⟨j,bj,hp,hk,ej,hr⟩|⟨bad,j,hr,hp⟩
    .exact Zf ⟨j,hp,hk,ej,by simpa using hr⟩
    .exact Zd ⟨bad,j,hr,hp⟩))
   clear aM cd eo HI;go_wp2_with fail;refine Zc i9.o ?_;rintro e w8 ⟨rfl,bG,hf⟩;have ib:=aa bG;have d6:=aa hf.o;clear bG hf;go_wp2;go_ret;exact⟨_,rfl,dI.o.trans ib.o,d6.o⟩
  .rcases eo with⟨j,bj,hp,hk,ej,hr⟩|⟨bad,j,hr,hp⟩
   .rw[Ze rfl]at hr;have jL:=hp.il;have qJ:1<=gk:=by have:=hr.2;omega
    obtain⟨k0,k1,k2,k3,kf⟩:=gE hp.blk;obtain⟨x,hx⟩:∃x,T[j]?=Zb x:=⟨T[j]'jL,List.getElem?_eq_getElem jL⟩
    obtain⟨t,at'⟩:=x;obtain⟨q,_,c0,c1,c2,c3,c4⟩:=hp.row.cells hx;have aL:=aa (Ao hx);have tJ:XX (j+1=T.length->t.kind=101\/t.kind=120):=λhe=>hp.last j _ hx he
    have sY:ax (wr.alloc (.cells #[.int .u8 0,.int .i64 0,.string ⟨#[]⟩,.int .i64 0,.pointer O] 128)).drew V b g cap T j (d+1) (-1):=hp.same (((Zh _ wr).alloc (Zj _) _)).drew;obtain⟨z0,z1,z2,z3,zf⟩:=gE sY.blk;obtain⟨q',_,y0,y1,y2,y3,y4⟩:=sY.row.cells hx;have E7:q'=q:=by
     have hd:(wr.alloc (.cells #[.int .u8 0,.int .i64 0,.string ⟨#[]⟩,.int .i64 0,.pointer O] 128)).drew.cell? ⟨g,j*5+4,O⟩=wr.cell? ⟨g,j*5+4,O⟩:=by
      have hg:=hp.rowlt;show(wr.alloc (.cells #[.int .u8 0,.int .i64 0,.string ⟨#[]⟩,.int .i64 0,.pointer O] 128)).cell? _=_;exact World.cell?_of_block (Zg _ _ _ hg)
     rw[hd,c4]at y4;injection y4 with y4;injection y4 with y4;exact y4.symm
    subst E7;have HP:=aa hp;have HK:=aa hk;have HR:=aa hr;have iy:=aa cd;clear hp hk hr cd aM hx sY HI;go_wp2_with fail
    go_region
    obtain⟨w1,dE⟩:∃w1,w1=(wr.alloc (.cells #[.int .u8 t.kind,.int .i64 at',.string t.txt,.int .i64 t.num,.pointer q'] 128)).drew:=⟨_,rfl⟩
    change Exit.then _ _ Zi _ (wr.alloc (.cells #[.int .u8 t.kind,.int .i64 at',.string t.txt,.int .i64 t.num,.pointer q'] 128)).drew
    rw[<-dE];have ae:Below wr.heap.size wr w1:=by rw[dE];exact(((Zh _ wr).alloc (Zj _) _)).drew
    have aC:ax w1 V b g cap T j (d+1) (-1):=HP.o.same ae;have gq:w1.heap[wr.heap.size]?=Zb (.cells #[.int .u8 t.kind,.int .i64 at',.string t.txt,.int .i64 t.num,.pointer q'] 128 (0,0)):=by rw[dE];exact aE rfl
    have t0:w1.cell? ⟨wr.heap.size,0,O⟩=Zb (.int .u8 t.kind):=by simp[Zk,gq]
    have aT:XX (ab b w w1):=dI.o.of_below ae;have Ms:wr.heap.size+1=w1.heap.size:=by rw[dE];simp
    have aX:=aa aC;have gv:=aa gq;have gu:XX (kD V w.heap.size w.heap.size nsl lsl ks l ps w1):=HK.o.keep (λm hm _ _=>ae.block m hm);have Ax:XX (w1.heap[w.heap.size]?=Zb (bH fi 0 ⟨#[]⟩ nsl lsl 0 0 0 Za Za Za (.pointer O))):=(ae.block _ md).trans iy.o;obtain⟨m0,m1,m2,m3,mf⟩:=gE aC.blk;clear k0 k1 k2 k3 kf c0 c1 c2 c3 c4 z0 z1 z2 z3 zf y0 y1 y2 y3 y4 dE ae gq m0 m2 m3;by_cases hw:t.kind=119\/t.kind=113
    .have qL:j+1<T.length:=by
      rcases Nat.lt_or_ge (j+1) T.length with h|h
      .exact h
      .have:=tJ.o (by omega);omega
     have bb:ax (w1.setCell ⟨b,1,O⟩ (.int .i64 ((j:Int)+1))) V b g cap T (j+1) (d+1) (-1):=aC.to ((ab.refl b w1).setCell _ _) (uf aC.blk (j+1)) qL aC.dl (by omega);have mL:gk=(gk-1)+1:=by omega
     have Sa:Calls prog 239 #[.pointer (Zb ⟨b,0,O⟩),.string ⟨#[58]⟩] (w1.setCell ⟨b,1,O⟩ (.int .i64 ((j:Int)+1))) λe w3=>e=.returned (.tuple #[])/\ab b w1 w3/\XX ((ag T (j+1) fo=true/\ax w3 V b g cap T (j+2) (d+1) (-1))\/(ag T (j+1) fo=Za/\ax w3 V b g cap T (j+1) (d+1) (bE T (j+1):Nat))):=by
      refine(Qo bb ⟨#[58]⟩ (B:=ag T (j+1) fo) (by simp[fo])).mono ?_;rintro e w3 ⟨rfl,ap,bk⟩;refine⟨rfl,((ab.refl b w1).setCell _ _).trans ap,?_⟩;cases hc:ag T (j+1) fo with
      |true=>rw[hc]at bk;exact Zf ⟨rfl,bk⟩
      |false=>rw[hc]at bk;exact Zd ⟨rfl,bk⟩
     have WW:=aa Sa;have HW:=aa hw;clear Sa bb aC;rcases hw with jo|jo
     all_goals
      have e119:(t.kind==119)=decide (t.kind=119):=by rw[jo];rfl
      have e113:(t.kind==113)=decide (t.kind=113):=by rw[jo];rfl
      rw[jo]at e119 e113 t0;go_wp2_with fail;refine Zc WW.o ?_;rintro e w3 ⟨rfl,ap,Sd⟩;have xq:Calls prog 59 #[.pointer (Zb ⟨b,0,O⟩),.int .i64 0] w3 λe w4=>∃m4,e=.returned (.pointer (Zb ⟨m4,0,O⟩))/\ab b w3 w4/\XX (Pi V b g cap T i d (M5 T inn) res gk ks l t.txt w3.heap.size m4 w4):=by
       have Cj:w1.heap.size<=w3.heap.size:=ap.size;have ze:=HR.o.1;have hR2:=HR.o.2;rw[mL]at ze;cases inn with
       |none=>exact absurd rfl bj
       |some f=>
        rcases Sd.o with⟨hc,bk⟩|⟨hc,bk⟩
        .refine(lX.o.2.2 w3 (j+2) bk (λm hm=>by have:=HV.o m hm;omega)).mono ?_;rintro e w4 ⟨p,rfl,ar,cP⟩;rcases cP with⟨y,j4,hy,j5,bg,bI⟩|⟨bad4,j4,hy,bg,bI⟩
         .obtain⟨m4,e4,_⟩:=bI.o.ptr;subst e4;refine⟨m4,rfl,ar,Zf ⟨y,j4,by omega,by omega,bg,bI.o,?_⟩⟩;rw[Nz (ks':=[t.txt]) (y:=y) (k:=j4) (by show ji T f.2 j=_;rw[ji,aL.o.1,Ze HW.o,hc,Ze rfl,hy.o])]at ze;exact ze.symm
         .obtain⟨m4,e4,_⟩:=bI.o.ptr;subst e4;refine⟨m4,rfl,ar,Zd ⟨bad4,j4,?_,bg⟩⟩;rw[FD (bad:=bad4) (by show ji T f.2 j=_;rw[ji,aL.o.1,Ze HW.o,hc,Ze rfl,hy.o])]at ze;exact ze.symm
        .refine(yX V b g cap T 0 (by omega) w3 (j+1) (d+1) (bE T (j+1):Nat) bk (by omega) (by omega)).mono ?_;rintro e w4 ⟨p,rfl,ar,bg,bI⟩;obtain⟨m4,e4,_⟩:=bI.o.ptr;subst e4;refine⟨m4,rfl,ar,Zd ⟨bE T (j+1),j+1,?_,bg⟩⟩;rw[FD (bad:=bE T (j+1)) (by show ji T f.2 j=_;rw[ji,aL.o.1,Ze HW.o,hc];rfl)]at ze;exact ze.symm
      have Da:=aa xq;have bo:=aa ap;clear xq ap Sd;go_wp2_with fail;refine Zc Da.o ?_;rintro e w4 ⟨m4,rfl,aB,rM⟩;have F2:XX (ab b w1 w4):=bo.o.trans aB;have yu:=aa rM.o;have amE:w1.heap.size<=w3.heap.size:=bo.o.size;have afi:w3.heap.size<=w4.heap.size:=aB.size;have pl:w4.heap[wr.heap.size]?=Zb (.cells #[.int .u8 t.kind,.int .i64 at',.string t.txt,.int .i64 t.num,.pointer q'] 128 (0,0)):=(F2.o.block _ (al gv.o) (by intro e;injection e with e;have:=aR.o;omega)).trans gv.o;have de:w4.heap[w.heap.size]?=Zb (bH fi 0 ⟨#[]⟩ nsl lsl 0 0 0 Za Za Za (.pointer O)):=(F2.o.block _ (al Ax.o) (by intro e;injection e with e;have:=aR.o;omega)).trans Ax.o;have jv:XX (kD V w.heap.size w.heap.size nsl lsl ks l ps w4):=gu.o.but F2.o aR.o aV.o;obtain⟨c0,c3,c4,cf⟩:=kU de;have t2:w4.cell? ⟨wr.heap.size,2,O⟩=Zb (.string t.txt):=by simp[Zk,pl]
      have hz:((w4.alloc (.cells #[.string t.txt] 9)).drew).heap[w.heap.size]?=Zb (bH fi 0 ⟨#[]⟩ nsl lsl 0 0 0 Za Za Za (.pointer O)):=cj de;obtain⟨z0,z3,z4,zf⟩:=kU hz;have pF:=aa de;have EZ:=al de;clear aB rM pl de hz c0 c4 z0 z4 m1 mf t0;go_wp2_with fail
      go_region_law (refine NI rfl (.tmp 54) (.tmp 57) 131 9 rfl (.string ⟨#[]⟩) 16 afu rfl underlying131 (by decide) nsl (kv ks) (by rfl) (by exact Zl jv.o.names _) ⟨w4.heap.size,0,O⟩ 1 (.string t.txt) (by rfl) (by exact my rfl) rfl (by rw[af1];omega) (w4.heap.size+1) (by simp) ?_;intro g5 cap5 w5 jh bK ij mP;(have cw:w5.heap[w.heap.size]?=Zb (bH fi 0 ⟨#[]⟩ nsl lsl 0 0 0 Za Za Za (.pointer O)):=(bK.block _ (by simp;omega) (λe=>(jv.o.nown _ e.symm).2.1 rfl)).trans ((Zg _ _ _ EZ).trans pF.o));(obtain⟨f0,f3,f4,ff⟩:=kU cw))
      all_goals
       have LP:(w4.alloc (.cells #[.string t.txt] 9)).grownBy w5 nsl.ownBlock:=KZ bK;have Sn:ao w5 68 lsl ps:=ao.same jv.o.row (λk hk=>(LP.block k (by have:=ao.lt jv.o.row hk;simp;omega) (λe=>(jv.o.nown k e.symm).2.2 hk)).trans (Zg _ _ _ (ao.lt jv.o.row hk)));obtain⟨w6,fG⟩:∃w6,w6=w5.setCell ⟨w.heap.size,3,O⟩ (.slice (Zb ⟨g5,0,O⟩) ((kv ks).length+1) cap5):=⟨_,rfl⟩
       have AO:XX (ao w6 68 lsl ps):=by show ao _ _ _ _;rw[fG];exact ao.same Sn (λk hk=>Below.heap_setCell _ _ _ _ (by simpa using(jv.o.own k hk).2))
       have fk:w6.heap[w.heap.size]?=Zb (bH fi 0 ⟨#[]⟩ (.slice (Zb ⟨g5,0,O⟩) ((kv ks).length+1) cap5) lsl 0 0 0 Za Za Za (.pointer O)):=by rw[fG];exact TA cw _
       obtain⟨d0,d3,d4,df⟩:=kU fk;have C9:=aa fk;have AU:=aa fG;have HR5:=aa jh;have OF:=aa LP;have WG:=aa ij
       change Exit.then _ _ Zi _ (w5.setCell ⟨w.heap.size,3,O⟩ (.slice (Zb ⟨g5,0,O⟩) ((kv ks).length+1) cap5))
       rw[<-fG];clear LP Sn fk fG jh bK ij mP cw f0 f3 f4 ff c3 cf z3 zf t2 d0 d3;have im:w4.heap.size+1<=w5.heap.size:=by have:=OF.o.size;simpa using this
       have HS6:XX (w6.heap.size=w5.heap.size):=by show _=_;rw[AU.o];simp[World.setCell]
       go_wp2_with (at_builtin;refine pP rfl (.tmp 65) (.tmp 67) 132 68 rfl (.pointer O) 8 zR rfl underlying132 (by decide) lsl ps rfl ?_ _ _ (.pointer (Zb ⟨m4,0,O⟩)) rfl ?_ rfl ?_ (w6.heap.size+1) ?_ ?_)
       .exact Zl AO.o _
       .exact my rfl
       .omega
       .simp
       intro g7 cap7 w7 uu rB Hy aeE;have Sp:=HS6.o;have gm:w7.heap[w.heap.size]?=Zb (bH fi 0 ⟨#[]⟩ (.slice (Zb ⟨g5,0,O⟩) ((kv ks).length+1) cap5) lsl 0 0 0 Za Za Za (.pointer O)):=(rB.block _ (by simp;omega) (λe=>(jv.o.own _ e.symm).2 rfl)).trans ((Zg _ _ _ (al C9.o)).trans C9.o);obtain⟨f0,f3,f4,ff⟩:=kU gm;have pL:=aa (agK (P:=inn≠O) bj aR.o iJ.o HV.o aV.o qJ em dO (aT.o.trans F2.o) (by omega) afi (λk hk=>by have:=ao.lt gu.o.names hk;omega) (λk hk=>by have:=ao.lt gu.o.row hk;omega) jv.o pF.o HR5.o OF.o WG.o AU.o uu rB Hy rfl yu.o);clear uu rB Hy aeE gm f0 f3 d4 df Sp;go_wp2_with fail;refine Zc pL.o ?_;rintro e w9 ⟨B9,rfl,QW⟩;have WI:=aa QW.o;clear QW f4 ff;go_wp2;go_roundg (gk-1)
       case measure=>omega
       case rel=>exact⟨B9,rfl,WI.o⟩
    .have dh:t.kind≠119:=λh=>hw (Zf h)
     have ek:t.kind≠113:=λh=>hw (Zd h)
     have e119:(t.kind==119)=Za:=Zm.2 dh;have e113:(t.kind==113)=Za:=Zm.2 ek;have m119:(t.kind != 119)=true:=bne_iff_ne.2 dh;have m113:(t.kind != 113)=true:=bne_iff_ne.2 ek;have iz:=yW aC;rw[Ze (by omega),aL.o.2]at iz;have HF:=aa iz;have qr:XX (res=.error at'):=by
      show _=_;have:=HR.o.1;have mL:gk=(gk-1)+1:=by omega
      rw[mL]at this;rw[<-this];cases inn with
      |none=>exact absurd rfl bj
      |some f=>exact FD (by show ji T f.2 j=_;rw[ji,aL.o.1,if_neg hw,aL.o.2])
     clear iz aC;go_wp2_with fail;refine Zc HF.o ?_;rintro e w3 ⟨rfl,ap,bk⟩;have i9:=aa (M6 (i:=i) (inn:=inn) (w:=w) (ks:=ks) (l:=l) (ps:=ps) aR.o aV.o (al ((ap.block _ (al Ax.o) (by intro e;injection e with e;have:=aR.o;omega)).trans Ax.o)) ((ap.block _ (al Ax.o) (by intro e;injection e with e;have:=aR.o;omega)).trans Ax.o) (Zd ⟨at',j,eY.o.trans qr.o,bk⟩));have bo:=aa ap;clear ap bk;go_wp2_with fail;refine Zc i9.o ?_;rintro e w8 ⟨rfl,bG,hf⟩;have ib:=aa bG;have d6:=aa hf.o;clear bG hf;go_wp2;go_ret;exact⟨_,rfl,(aT.o.trans bo.o).trans ib.o,d6.o⟩
   .have i9:=aa (M6 (i:=i) (inn:=inn) (ks:=ks) (l:=l) (ps:=ps) aR.o aV.o md cd (by
     rw[eY.o];exact Zd ⟨bad,j,hr,hp⟩))
    obtain⟨k0,k1,k2,k3,kf⟩:=gE hp.blk;have L9:¬((bad:Int)<0):=by omega
    clear aM cd hp HI k0 k1 k2;go_wp2_with fail;refine Zc i9.o ?_;rintro e w8 ⟨rfl,bG,hf⟩;have ib:=aa bG;have d6:=aa hf.o;clear bG hf;go_wp2;go_ret;exact⟨_,rfl,dI.o.trans ib.o,d6.o⟩
end Go.Proofs.YtdlgkgfeoiohiaaGreatDoor
