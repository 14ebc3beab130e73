/- Part 7. -/
import Derived.Test.YtdlgkgfeoiohiaaGreatDoorA06
import Derived.Test.YtdlgkgfeoiohiaaGreatDoorShelf
import Derived.Deep.RegionWith
open BitVec renaming ofInt -> Zq,ofInt_natCast -> Zv,toNat_ofNat -> Zw
open Bool renaming false -> Zd,true -> Zh
open Go renaming World -> Zk,Calls -> Zl,Value -> Zn
open Go.BinOp renaming or -> Zp
open Go.IntKind renaming i32 -> Zr
open Go.RowKit.Below renaming heap_setCell -> Zu
open Go.World renaming cell? -> Zt
open Int renaming lt_or_le -> Zx
open Nat renaming mod_eq_of_lt -> Zy
open Option renaming some -> Ze,none -> Zi
open Prod.mk renaming injEq -> Zc
open _root_ renaming Int -> O,Nat -> Za,if_neg -> Zb,ByteArray -> Zf,if_pos -> Zg,Bool -> Zj,beq_eq_false_iff_ne -> Zm,congrArg -> Zo
namespace Go.Proofs.YtdlgkgfeoiohiaaGreatDoor
set_option linter.unusedVariables false
set_option maxHeartbeats 16000000
set_option maxRecDepth 100000
open Go.RowKit J Tryz
variable {s:Zf}{k b k3 k4 g o k1 k2:Za}{J:Addr}{w w':Zk}{op c d b3 b4 i bad b1 b2:O}{lg:Zj}{v:Zn}
def nJ(s:Zf)(k:Za)(op:O)(lg:Zj):Obj:=.cells #[.string s,.int .i64 k,.int .i64 op,.bool lg] 41 (0,0)
theorem iq(h:w.heap[b]?=Ze (nJ s k op lg)):
 w.cell? ⟨b,0,Zi⟩=Ze (.string s)/\w.cell? ⟨b,1,Zi⟩=Ze (.int .i64 k)/\w.cell? ⟨b,2,Zi⟩=Ze (.int .i64 op)/\w.cell? ⟨b,3,Zi⟩=Ze (.bool lg)/\∀o,w.frozen? ⟨b,o,Zi⟩=Zd:=by
 refine⟨?_,?_,?_,?_,λo=>?_⟩ <;> simp[Zt,Zk.frozen?,h,nJ]
theorem ahO(h:w.heap[b]?=Ze (nJ s k op lg))(k':Za)(e:i=(k':O)):
 (w.setCell ⟨b,1,Zi⟩ (.int .i64 i)).heap[b]?=Ze (nJ s k' op lg):=by subst e;exact cY h _
theorem ahQ(h:w.heap[b]?=Ze (nJ s k op lg))(op':O):
 (w.setCell ⟨b,2,Zi⟩ (.int .i64 op')).heap[b]?=Ze (nJ s k op' lg):=cY h _
theorem ahP(h:w.heap[b]?=Ze (nJ s k op lg))(lg':Zj):
 (w.setCell ⟨b,3,Zi⟩ (.bool lg')).heap[b]?=Ze (nJ s k op lg'):=cY h _
def pk(s:Zf)(k:Za):O:=if h:k<s.size then((s[k]'h).toNat:O)else 0
theorem wm(s:Zf)(k:Za):0<=pk s k/\pk s k<=255:=by
 unfold pk;split
 .rename_i h;have:=(s[k]'h).toNat_lt;omega
 .omega
theorem iT(hc:0<c):pk s k=c↔gb s k=c:=by
 unfold pk gb;split <;> omega
theorem Cy:(gb s k=pk s k/\0<=gb s k)\/(gb s k=-1/\pk s k=0):=by
 unfold pk gb;split
 .left;exact⟨rfl,by omega⟩
 .right;exact⟨rfl,rfl⟩
def PS(w:Zk)(b:Za)(s:Zf)(k:Za)(op:O)(lg:Zj)(J:Addr):Prop:=
 w.heap[b]?=Ze (nJ s k op lg)/\w.heap[5]?=Ze (.cells #[.iface 279 (.pointer (Ze J))] 29 (0,0))/\b≠5
theorem PS.drewN(h:PS w b s k op lg J)(n:Za):PS (w.drewN n) b s k op lg J:=h
theorem PS.at(h:PS w b s k op lg J)(k':Za)(e:i=(k':O)):PS (w.setCell ⟨b,1,Zi⟩ (.int .i64 i)) b s k' op lg J:=
 ⟨ahO h.1 k' e,by rw[Zu _ _ _ _ (λe=>h.2.2 e.symm)];exact h.2.1,h.2.2⟩
theorem PS.open(h:PS w b s k op lg J)(op':O):PS (w.setCell ⟨b,2,Zi⟩ (.int .i64 op')) b s k op' lg J:=
 ⟨ahQ h.1 op',by rw[Zu _ _ _ _ (λe=>h.2.2 e.symm)];exact h.2.1,h.2.2⟩
theorem PS.large(h:PS w b s k op lg J)(lg':Zj):PS (w.setCell ⟨b,3,Zi⟩ (.bool lg')) b s k op lg' J:=
 ⟨ahP h.1 lg',by rw[Zu _ _ _ _ (λe=>h.2.2 e.symm)];exact h.2.1,h.2.2⟩
theorem PS.cell(h:PS w b s k op lg J):w.cell? ⟨5,0,Zi⟩=Ze (.iface 279 (.pointer (Ze J))):=by
 simp[Zt,h.2.1]
theorem PS.keep{S:Za->Prop}(h:PS w b s k op lg J)(hc:cI S w w')(hb:¬S b)(hg:¬S 5):PS w' b s k op lg J:=
 ⟨(hc.block b (al h.1) hb).trans h.1,(hc.block _ (al h.2.1) hg).trans h.2.1,h.2.2⟩
def aG(J:Addr)(k:Za):Zn:=.iface 45 (.agg #[.int .i64 k,.iface 279 (.pointer (Ze J))])
theorem eT(b:Za)(s:Zf)(k:Za)(op:O)(lg:Zj)(w:Zk)(hp:PS w b s k op lg J)(hk:k<=s.size)(hs:s.size<=1000):
 Zl prog 33 #[.pointer (Ze ⟨b,0,Zi⟩)] w λe w'=>e=.returned (.int .u8 (pk s k))/\∃n,w'=w.drewN n:=by
 obtain⟨h0,h1,h2,h3,hf⟩:=iq hp.1;clear hp h2 h3 hf;by_cases ai:k<s.size
 .have bj:((k:O)==(s.size:O))=Zd:=Zm.2 (by omega);have HC:XX (pk s k=((s[k]'ai).toNat:O)):=by show _=_;rw[pk,dif_pos ai]
  go_enter func33,ntmps33;go_wp2;go_quiet (fail);go_wp2;go_quiet (fail);go_wp2;go_ret;exact⟨by rw[HC.o];rfl,_,Zk.drewN_drewN _ _ _⟩
 .have xy:k=s.size:=by omega
  subst xy;have HC:XX (pk s s.size=0):=by show _=_;rw[pk,dif_neg (by omega)]
  go_enter func33,ntmps33;go_wp2;go_quiet (fail);go_wp2;go_ret;exact⟨by rw[HC.o];rfl,_,rfl⟩
theorem pC(b:Za)(s:Zf)(k:Za)(op:O)(lg:Zj)(w:Zk)(hp:PS w b s k op lg J):
 Zl prog 19 #[.pointer (Ze ⟨b,0,Zi⟩)] w λe w'=>e=.returned (aG J k)/\∃n,w'=w.drewN n:=by
 obtain⟨h0,h1,h2,h3,hf⟩:=iq hp.1;have hJ:=hp.cell;clear hp h2 h3 hf;go_enter func19,ntmps19;go_wp2;go_quiet (fail);go_wp2;go_ret;exact⟨rfl,_,rfl⟩
theorem pu(b:Za)(s:Zf)(k:Za)(op:O)(lg:Zj)(c:O)(w:Zk)(hp:PS w b s k op lg J)(hk:k<=s.size)(hs:s.size<=1000)(hc:pk s k=c):
 Zl prog 32 #[.pointer (Ze ⟨b,0,Zi⟩),.int .u8 c] w λe w'=>e=.returned (.bool Zh)/\ab b w w'/\PS w' b s (k+1) op lg J:=by
 obtain⟨h0,h1,h2,h3,hf⟩:=iq hp.1;have HP:XX (PS w b s k op lg J):=hp;have HC:XX (pk s k=c):=hc;clear hp h0 h2 h3 hc;go_enter func32,ntmps32;go_wp2_with (go_at_call 33;refine(eT b s k op lg _ HP.o hk hs).mono ?_;rintro e w' ⟨rfl,n,rfl⟩;rw[HC.o])
 go_ret;exact⟨rfl,((ab.refl _ _).drewN _).setCell _ _,(HP.o.drewN _).at (k+1) (by omega)⟩
theorem iW(b:Za)(s:Zf)(k:Za)(op:O)(lg:Zj)(c:O)(w:Zk)(hp:PS w b s k op lg J)(hk:k<=s.size)(hs:s.size<=1000)(hc:pk s k≠c):
 Zl prog 32 #[.pointer (Ze ⟨b,0,Zi⟩),.int .u8 c] w λe w'=>e=.returned (.bool Zd)/\ab b w w'/\PS w' b s k op lg J:=by
 have HP:XX (PS w b s k op lg J):=hp;have bj:(pk s k != c)=Zh:=by rw[bne_iff_ne];exact hc
 clear hp hc;go_enter func32,ntmps32;go_wp2_with (go_at_call 33;refine(eT b s k op lg _ HP.o hk hs).mono ?_;rintro e w' ⟨rfl,n,rfl⟩)
 go_ret;exact⟨rfl,(ab.refl _ _).drewN _,HP.o.drewN _⟩
def Ab(s:Zf)(k:Za)(c:O):Zj×Za:=if pk s k=c then(Zh,k+1)else(Zd,k)
theorem Ac(b:Za)(s:Zf)(k:Za)(op:O)(lg:Zj)(c:O)(w:Zk)(hp:PS w b s k op lg J)(hk:k<=s.size)(hs:s.size<=1000):
 Zl prog 32 #[.pointer (Ze ⟨b,0,Zi⟩),.int .u8 c] w λe w'=>∃t k',e=.returned (.bool t)/\ab b w w'/\PS w' b s k' op lg J/\XX (Ab s k c=(t,k')):=by
 by_cases h:pk s k=c
 .refine(pu b s k op lg c w hp hk hs h).mono ?_;rintro e w' ⟨rfl,h1,h2⟩;exact⟨Zh,k+1,rfl,h1,h2,by show _=_;rw[Ab,Zg h]⟩
 .refine(iW b s k op lg c w hp hk hs h).mono ?_;rintro e w' ⟨rfl,h1,h2⟩;exact⟨Zd,k,rfl,h1,h2,by show _=_;rw[Ab,Zb h]⟩
theorem xM(b:Za)(s:Zf)(k:Za)(op:O)(lg:Zj)(w:Zk)(hp:PS w b s k op lg J)(hk:k<=s.size)(hs:s.size<=1000):
 Zl prog 17 #[.pointer (Ze ⟨b,0,Zi⟩)] w λe w'=>e=.returned (.tuple #[])/\ab b w w'/\PS w' b s (ak s k) op lg J:=by
 go_enter func17,ntmps17;go_wp2_with fail;go_loopg [] (s.size-k) (λg wr=>∃j:Za,g=s.size-j/\j<=s.size/\ak s j=ak s k/\ab b w wr/\PS wr b s j op lg J)
 case atStart=>exact⟨k,rfl,hk,rfl,ab.refl _ _,hp⟩
 case round=>
  obtain⟨j,hg,hj,eQ,ar,aC⟩:=hrel;clear hp;have HP:XX (PS wr b s j op lg J):=aC;have HG:XX (gk=s.size-j):=hg;have HS:XX (ak s j=ak s k):=eQ;obtain⟨c,hc⟩:∃c,c=pk s j:=⟨_,rfl⟩
  have oE:∀y:O,0<y->c=y->gb s j=y:=λy hy h=>(iT hy).1 (by rw[<-hc];exact h)
  have Ry:∀y:O,0<y->c≠y->gb s j≠y:=λy hy h e=>h (by rw[hc];exact(iT hy).2 e)
  have kA:XX (∀y:O,0<y->c=y->gb s j=y):=oE;have uO:XX (∀y:O,0<y->c≠y->gb s j≠y):=Ry;have HC:XX (pk s j=c):=hc.symm;clear aC hg eQ hc oE Ry;rcases(show c=32\/c=9\/c=10\/c=13\/(c≠32/\c≠9/\c≠10/\c≠13)from by omega)with rfl|rfl|rfl|rfl|hn
  .have sT:=kA.o 32 (by omega) rfl;have l9:=cC (s:=s) (k:=j) (by omega);have yk:XX (kT (gb s j)=Zh):=by show _=_;rw[sT];rfl
   clear sT kA uO;go_wp2_with fail;refine(pu b s j op lg 32 _ HP.o hj hs HC.o).mono ?_;rintro e w1 ⟨rfl,ae,aC⟩;go_wp2_with fail;go_roundg (s.size-(j+1))
   case measure=>rw[HG.o];omega
   case rel=>exact⟨j+1,rfl,l9,by rw[<-HS.o];exact(Ak yk.o).symm,ar.trans ae,aC⟩
  .have sT:=kA.o 9 (by omega) rfl;have l9:=cC (s:=s) (k:=j) (by omega);have yk:XX (kT (gb s j)=Zh):=by show _=_;rw[sT];rfl
   clear sT kA uO;go_wp2_with fail;refine(iW b s j op lg 32 _ HP.o hj hs (by rw[HC.o];decide)).mono ?_;rintro e w1 ⟨rfl,ae,aC⟩;go_wp2_with fail;refine(pu b s j op lg 9 _ aC hj hs HC.o).mono ?_;rintro e w2 ⟨rfl,ah,bb⟩;go_wp2_with fail;go_roundg (s.size-(j+1))
   case measure=>rw[HG.o];omega
   case rel=>exact⟨j+1,rfl,l9,by rw[<-HS.o];exact(Ak yk.o).symm,(ar.trans ae).trans ah,bb⟩
  .have sT:=kA.o 10 (by omega) rfl;have l9:=cC (s:=s) (k:=j) (by omega);have yk:XX (kT (gb s j)=Zh):=by show _=_;rw[sT];rfl
   clear sT kA uO;go_wp2_with fail;refine(iW b s j op lg 32 _ HP.o hj hs (by rw[HC.o];decide)).mono ?_;rintro e w1 ⟨rfl,ae,aC⟩;go_wp2_with fail;refine(iW b s j op lg 9 _ aC hj hs (by rw[HC.o];decide)).mono ?_;rintro e w2 ⟨rfl,ah,bb⟩;go_wp2_with fail;refine(pu b s j op lg 10 _ bb hj hs HC.o).mono ?_;rintro e w3 ⟨rfl,ap,bk⟩;go_wp2_with fail;go_roundg (s.size-(j+1))
   case measure=>rw[HG.o];omega
   case rel=>exact⟨j+1,rfl,l9,by rw[<-HS.o];exact(Ak yk.o).symm,((ar.trans ae).trans ah).trans ap,bk⟩
  .have sT:=kA.o 13 (by omega) rfl;have l9:=cC (s:=s) (k:=j) (by omega);have yk:XX (kT (gb s j)=Zh):=by show _=_;rw[sT];rfl
   clear sT kA uO;go_wp2_with fail;refine(iW b s j op lg 32 _ HP.o hj hs (by rw[HC.o];decide)).mono ?_;rintro e w1 ⟨rfl,ae,aC⟩;go_wp2_with fail;refine(iW b s j op lg 9 _ aC hj hs (by rw[HC.o];decide)).mono ?_;rintro e w2 ⟨rfl,ah,bb⟩;go_wp2_with fail;refine(iW b s j op lg 10 _ bb hj hs (by rw[HC.o];decide)).mono ?_;rintro e w3 ⟨rfl,ap,bk⟩;go_wp2_with fail;refine(pu b s j op lg 13 _ bk hj hs HC.o).mono ?_;rintro e w4 ⟨rfl,aB,bg⟩;go_wp2_with fail;go_roundg (s.size-(j+1))
   case measure=>rw[HG.o];omega
   case rel=>exact⟨j+1,rfl,l9,by rw[<-HS.o];exact(Ak yk.o).symm,(((ar.trans ae).trans ah).trans ap).trans aB,bg⟩
  .have oV:XX (ak s k=j):=by
    show ak s k=j;rw[<-HS.o];apply uH;have h1:=uO.o 32 (by omega) hn.1;have h2:=uO.o 9 (by omega) hn.2.1;have h3:=uO.o 10 (by omega) hn.2.2.1;have h4:=uO.o 13 (by omega) hn.2.2.2;simp[kT,h1,h2,h3,h4]
   have HN:XX (c≠32/\c≠9/\c≠10/\c≠13):=hn;clear hn kA uO;go_wp2_with fail;refine(iW b s j op lg 32 _ HP.o hj hs (by rw[HC.o];exact HN.o.1)).mono ?_;rintro e w1 ⟨rfl,ae,aC⟩;go_wp2_with fail;refine(iW b s j op lg 9 _ aC hj hs (by rw[HC.o];exact HN.o.2.1)).mono ?_;rintro e w2 ⟨rfl,ah,bb⟩;go_wp2_with fail;refine(iW b s j op lg 10 _ bb hj hs (by rw[HC.o];exact HN.o.2.2.1)).mono ?_;rintro e w3 ⟨rfl,ap,bk⟩;go_wp2_with fail;refine(iW b s j op lg 13 _ bk hj hs (by rw[HC.o];exact HN.o.2.2.2)).mono ?_;rintro e w4 ⟨rfl,aB,bg⟩;go_wp2_with fail
   go_end0
   exact⟨rfl,(((ar.trans ae).trans ah).trans ap).trans aB,by rw[oV.o];exact bg⟩
def fK(J:Addr)(r:Za×O):Zn:=if r.2<0 then .nilIface else aG J r.1
theorem Vr{c:UInt8}(hc:0<c.toNat):(cv s k (-1)=(c.toNat:O))↔pk s k=(c.toNat:O):=by
 rw[ct];exact(iT (by omega)).symm
theorem Fz(b:Za)(s lit:Zf)(k:Za)(op:O)(lg:Zj)(w:Zk)(hp:PS w b s k op lg J)(hk:k<=s.size)(hs:s.size<=1000)(hl:lit.size<=1000)(hpos:∀i (h:i<lit.size),0<(lit[i]'h).toNat):
 Zl prog 34 #[.pointer (Ze ⟨b,0,Zi⟩),.string lit] w λe w'=>e=.returned (fK J (aQ s k (-1) lit.data.toList))/\ab b w w'/\PS w' b s (aQ s k (-1) lit.data.toList).1 op lg J:=by
 have nN:XX (PS w b s k op lg J):=hp;have aaf:XX (∀i (h:i<lit.size),0<(lit[i]'h).toNat):=hpos;obtain⟨R,hR⟩:∃R,R=aQ s k (-1) lit.data.toList:=⟨_,rfl⟩
 have HR:XX (aQ s k (-1) lit.data.toList=R):=hR.symm;rw[<-hR];clear hp hR hpos;go_enter func34,ntmps34;go_wp2_with fail;go_loopg [8] lit.size (λg i wr=>∃m:Za,m<=lit.size/\g=lit.size-m/\i=.int .i64 m/\k+m<=s.size/\aQ s (k+m) (-1) (lit.data.toList.drop m)=R/\ab b w wr/\PS wr b s (k+m) op lg J)
 case atStart=>exact⟨0,by omega,by omega,rfl,by omega,by simpa using HR.o,ab.refl _ _,nN.o⟩
 case round=>
  obtain⟨m,hm,hg,rfl,kO,hw,ar,aC⟩:=hrel;have HP:XX (PS wr b s (k+m) op lg J):=aC;have HG:XX (gk=lit.size-m):=hg;have HW:XX (aQ s (k+m) (-1) (lit.data.toList.drop m)=R):=hw;clear aC hg hw;by_cases ai:m<lit.size
  .have BV:=aaf.o m ai;by_cases hy:pk s (k+m)=((lit[m]'ai).toNat:O)
   .have oU:=(Vr (s:=s) (k:=k+m) BV).2 hy;have kN:=(qC (s:=s) (k:=k+m) (bad:=-1) (by omega)).1;have HY:XX (pk s (k+m)=((lit[m]'ai).toNat:O)):=hy;have HN:XX (aQ s (k+(m+1)) (-1) (lit.data.toList.drop (m+1))=R):=by
     show _=_;rw[<-HW.o,D9 lit m ai,aQ,Zg oU];rfl
    clear hy oU;go_wp2_with fail;refine(pu b s (k+m) op lg _ _ HP.o kO hs HY.o).mono ?_;rintro e w' ⟨rfl,ce,bb⟩;go_wp2_with fail;go_roundg (lit.size-(m+1))
    case measure=>rw[HG.o];omega
    case rel=>exact⟨m+1,by omega,rfl,by go_num,by omega,HN.o,ar.trans ce,bb⟩
   .have HN:XX (R=(k+m,oA (k+m) (-1))):=by
     show _=_;rw[<-HW.o,D9 lit m ai,aQ,Zb (λh=>hy ((Vr BV).1 h))]
    have HY:XX (pk s (k+m)≠((lit[m]'ai).toNat:O)):=hy;clear hy;go_wp2_with fail;refine(iW b s (k+m) op lg _ _ HP.o kO hs HY.o).mono ?_;rintro e w' ⟨rfl,ce,bb⟩;go_wp2_with fail;refine(pC b s (k+m) op lg _ bb).mono ?_;rintro e w3 ⟨rfl,nd,rfl⟩;go_wp2_with fail;go_ret;refine⟨?_,(ar.trans ce).drewN _,by rw[HN.o];exact bb.drewN _⟩;rw[HN.o,fK,rp,Zb (by show ¬((k+m:Za):O)<0;omega)];rfl
  .have HN:XX (R=(k+m,-1)):=by
    show _=_;rw[<-HW.o,List.drop_eq_nil_of_le (by simp;omega),aQ]
   go_wp2;go_ret;refine⟨?_,ar,by rw[HN.o];exact HP.o⟩;rw[HN.o,fK,Zg (by simp)];rfl
theorem Is(c:O)(w:Zk)(h0:0<=c)(h1:c<=255):Zl prog 108 #[.int .u8 c] w λe w'=>e=.returned (.bool (aK c))/\w=w':=by
 rcases(show c<48\/(48<=c/\c<=57)\/57<c from by omega)with h|h|h
 all_goals
  try obtain⟨h,h'⟩:=h
  have HE:XX (aK c=decide (48<=c/\c<=57)):=by show _=_;simp[aK]
  go_enter func108,ntmps108;go_wp2;go_ret;exact⟨aim (by rw[HE.o,eq_comm];first|exact decide_eq_true (by omega)|exact decide_eq_false (by omega)|(rw[decide_eq_decide];omega)),rfl⟩
theorem Ir(s:Zf)(k:Za):aK (pk s k)=aK (gb s k):=by
 rcases Cy (s:=s) (k:=k)with⟨h,_⟩|⟨h1,h2⟩
 .rw[h]
 .rw[h1,h2];rfl
theorem Cx(b:Za)(s:Zf)(k:Za)(op:O)(lg:Zj)(w:Zk)(hp:PS w b s k op lg J)(hk:k<=s.size)(hs:s.size<=1000):
 Zl prog 69 #[.pointer (Ze ⟨b,0,Zi⟩)] w λe w'=>e=.returned (if aK (gb s k)then .nilIface else aG J k)/\ab b w w'/\PS w' b s (if aK (gb s k)then aA s k else k) op lg J:=by
 have bF:=wm s k;have HP:XX (PS w b s k op lg J):=hp;clear hp;cases hd:aK (gb s k)
 .have HD:XX (aK (pk s k)=Zd):=by show _=_;rw[Ir];exact hd
  simp only[Zj.false_eq_true,if_false];clear hd;go_enter func69,ntmps69;go_wp2_with fail;refine(eT b s k op lg _ HP.o hk hs).mono ?_;rintro e w1 ⟨rfl,n1,rfl⟩;go_wp2_with fail;refine(Is _ _ bF.1 bF.2).mono ?_;rintro e w2 ⟨rfl,rfl⟩;rw[HD.o];go_wp2_with fail;refine(pC b s k op lg _ (HP.o.drewN _)).mono ?_;rintro e w3 ⟨rfl,n3,rfl⟩;go_wp2_with fail;go_ret;exact⟨rfl,(ab.refl _ _).drewN _,HP.o.drewN _⟩
 .have HD:XX (aK (pk s k)=Zh):=by show _=_;rw[Ir];exact hd
  simp only[if_true];clear hd;go_enter func69,ntmps69;go_wp2_with fail;refine(eT b s k op lg _ HP.o hk hs).mono ?_;rintro e w1 ⟨rfl,n1,rfl⟩;go_wp2_with fail;refine(Is _ _ bF.1 bF.2).mono ?_;rintro e w2 ⟨rfl,rfl⟩;rw[HD.o];go_wp2_with fail;go_loopg [] (s.size-k) (λg wr=>∃j:Za,g=s.size-j/\j<=s.size/\aA s j=aA s k/\ab b w wr/\PS wr b s j op lg J)
  case atStart=>exact⟨k,rfl,hk,rfl,(ab.refl _ _).drewN _,HP.o.drewN _⟩
  case round=>
   obtain⟨j,hg,hj,Sk,ar,aC⟩:=hrel;have aX:XX (PS wr b s j op lg J):=aC;have HG:XX (gk=s.size-j):=hg;have ig:XX (aA s j=aA s k):=Sk;have BB:=wm s j;obtain⟨g0,g1,g2,g3,hf⟩:=iq aC.1;clear aC hg Sk g0 g2 g3;cases hd:aK (gb s j)
   .have wH:XX (aK (pk s j)=Zd):=by show _=_;rw[Ir];exact hd
    have HF:XX (aA s k=j):=by show _=_;rw[<-ig.o];exact FE hd
    clear hd;go_wp2_with fail;refine(eT b s j op lg _ aX.o hj hs).mono ?_;rintro e w1 ⟨rfl,n1,rfl⟩;go_wp2_with fail;refine(Is _ _ BB.1 BB.2).mono ?_;rintro e w2 ⟨rfl,rfl⟩;rw[wH.o];go_wp2_with fail;go_ret;exact⟨rfl,ar.drewN _,by rw[HF.o];exact aX.o.drewN _⟩
   .have wH:XX (aK (pk s j)=Zh):=by show _=_;rw[Ir];exact hd
    have l9:=zT hd;have HN:XX (aA s (j+1)=aA s k):=by show _=_;rw[<-ig.o];exact(uG hd).symm
    clear hd;go_wp2_with fail;refine(eT b s j op lg _ aX.o hj hs).mono ?_;rintro e w1 ⟨rfl,n1,rfl⟩;go_wp2_with fail;refine(Is _ _ BB.1 BB.2).mono ?_;rintro e w2 ⟨rfl,rfl⟩;rw[wH.o];go_wp2_with fail;go_roundg (s.size-(j+1))
    case measure=>rw[HG.o];omega
    case rel=>exact⟨j+1,rfl,l9,HN.o,(ar.drewN _).setCell _ _,(aX.o.drewN _).at (j+1) (by omega)⟩
def fT(c:O):O×O×O:=
 if c<128 then(1,0,0)else if c<194 then(0,0,0)else if c<224 then(2,128,191)else if c=224 then(3,160,191)else if c=237 then(3,128,159)
 else if c<240 then(3,128,191)else if c=240 then(4,144,191)else if c<244 then(4,128,191)else if c=244 then(4,128,143)else(0,0,0)
theorem CJ:(c<128/\fT c=(1,0,0))\/(128<=c/\c<194/\fT c=(0,0,0))\/(194<=c/\c<224/\fT c=(2,128,191))\/(c=224/\fT c=(3,160,191))\/(c=237/\fT c=(3,128,159)) \/
 (224<c/\c<240/\c≠237/\fT c=(3,128,191))\/(c=240/\fT c=(4,144,191))\/(240<c/\c<244/\fT c=(4,128,191))\/(c=244/\fT c=(4,128,143))\/(244<c/\fT c=(0,0,0)):=by
 rcases(show c<128\/(128<=c/\c<194)\/(194<=c/\c<224)\/c=224\/c=237\/(224<c/\c<240/\c≠237)\/c=240\/(240<c/\c<244)\/c=244\/244<c from by omega)with h|h|h|h|h|h|h|h|h|h
 .exact .inl ⟨h,by rw[fT,Zg h]⟩
 .exact .inr (.inl ⟨h.1,h.2,by rw[fT,Zb (by omega),Zg h.2]⟩)
 .exact .inr (.inr (.inl ⟨h.1,h.2,by rw[fT,Zb (by omega),Zb (by omega),Zg h.2]⟩))
 .subst h;exact .inr (.inr (.inr (.inl ⟨rfl,rfl⟩)))
 .subst h;exact .inr (.inr (.inr (.inr (.inl ⟨rfl,rfl⟩))))
 .exact .inr (.inr (.inr (.inr (.inr (.inl ⟨h.1,h.2.1,h.2.2,by rw[fT,Zb (by omega),Zb (by omega),Zb (by omega),Zb (by omega),Zb h.2.2,Zg h.2.1]⟩)))))
 .subst h;exact .inr (.inr (.inr (.inr (.inr (.inr (.inl ⟨rfl,rfl⟩))))))
 .exact .inr (.inr (.inr (.inr (.inr (.inr (.inr (.inl ⟨h.1,h.2,by rw[fT,Zb (by omega),Zb (by omega),Zb (by omega),Zb (by omega),Zb (by omega),Zb (by omega),Zb (by omega),Zg h.2]⟩)))))))
 .subst h;exact .inr (.inr (.inr (.inr (.inr (.inr (.inr (.inr (.inl ⟨rfl,rfl⟩))))))))
 .exact .inr (.inr (.inr (.inr (.inr (.inr (.inr (.inr (.inr ⟨h,by rw[fT,Zb (by omega),Zb (by omega),Zb (by omega),Zb (by omega),Zb (by omega),Zb (by omega),Zb (by omega),Zb (by omega),Zb (by omega)]⟩))))))))
def NB(q:O×O×O):Zn:=.tuple #[.int .i64 q.1,.int .u8 q.2.1,.int .u8 q.2.2]
theorem UF(c:O)(w:Zk)(h0:0<=c)(h1:c<=255):Zl prog 152 #[.int .u8 c] w λe w'=>e=.returned (NB (fT c))/\w=w':=by
 rcases CJ (c:=c)with⟨h,e⟩|⟨h,h',e⟩|⟨h,h',e⟩|⟨h,e⟩|⟨h,e⟩|⟨h,h',h3,e⟩|⟨h,e⟩|⟨h,h',e⟩|⟨h,e⟩|⟨h,e⟩
 all_goals
  rw[e];clear e
  first
  |subst h
  |(
   have n1:(c==224)=Zd:=Zm.2 (by omega);have n2:(c==237)=Zd:=Zm.2 (by omega);have n3:(c==240)=Zd:=Zm.2 (by omega);have n4:(c==244)=Zd:=Zm.2 (by omega))
  go_enter func152,ntmps152;go_wp2;go_ret3;exact⟨rfl,rfl⟩
def gD(s:Zf):Za->O->O->Za->Za×O
 |0,_,_,k=>(k,-1)
 |n+1,lo,hi,k=>if lo<=pk s k/\pk s k<=hi then gD s n 128 191 (k+1)else(k,k)
def iU(s:Zf)(k:Za):Za×O:=
 if(fT (pk s k)).1=0 then(k,k)else gD s ((fT (pk s k)).1-1).toNat (fT (pk s k)).2.1 (fT (pk s k)).2.2 (k+1)
theorem Nj(h:0<pk s k):k<s.size:=by
 unfold pk at h;split at h
 .assumption
 .omega
theorem lm(h:w.cell? ⟨g,o,Zi⟩=Ze v)(e:w'.heap[g]?=w.heap[g]?):w'.cell? ⟨g,o,Zi⟩=Ze v:=by
 rw[<-h];simp only[Zt,e]
theorem qA(h:w.cell? ⟨g,o,Zi⟩=Ze v):g<w.heap.size:=by
 rcases Za.lt_or_ge g w.heap.size with hl|hg
 .exact hl
 .simp[Zt,Array.getElem?_eq_none hg]at h
def kE(w:Zk):Prop:=Lib.Utf8Tabs 8 9 w
theorem I2(h:kE w)(hb:ab b w w')(fD:15<=b):kE w':=
 ⟨λc hc=>lm (h.1 c hc) (hb.block _ (qA (h.1 c hc)) (by simp;omega)),
  λi hi=>⟨lm (h.2 i hi).1 (hb.block _ (qA (h.2 i hi).1) (by simp;omega)),lm (h.2 i hi).2 (hb.block _ (qA (h.2 i hi).2) (by simp;omega))⟩⟩
theorem aiw(c:O):0<=(fT c).1/\(fT c).1<=4/\0<=(fT c).2.1/\(fT c).2.1<=255/\0<=(fT c).2.2/\(fT c).2.2<=255/\((fT c).1≠0->128<=c->0<(fT c).2.1):=by
 rcases CJ (c:=c)with⟨h,e⟩|⟨h,h',e⟩|⟨h,h',e⟩|⟨h,e⟩|⟨h,e⟩|⟨h,h',h3,e⟩|⟨h,e⟩|⟨h,h',e⟩|⟨h,e⟩|⟨h,e⟩
 all_goals rw[e];simp <;> omega
def Cz(J:Addr)(s:Zf)(k:Za)(r:Za×O):Zn:=if r.2<0 then .tuple #[.int .i32 (Lib.decodeGo (s.extract k r.1)).1,.nilIface]else .tuple #[.int .i32 0,aG J r.1]
theorem ahk(b:Za)(s:Zf)(k:Za)(op:O)(lg:Zj)(w:Zk)(hp:PS w b s k op lg J)(hT:kE w)(fD:15<=b)(hk:k<s.size)(hs:s.size<=1000):
 Zl prog 101 #[.pointer (Ze ⟨b,0,Zi⟩)] w λe w'=>e=.returned (Cz J s k (iU s k))/\ab b w w'/\PS w' b s (iU s k).1 op lg J:=by
 obtain⟨g0,g1,g2,g3,hf⟩:=iq hp.1;have HP:XX (PS w b s k op lg J):=hp;have HT:XX (kE w):=hT;have bF:=wm s k;obtain⟨c,hc⟩:∃c,c=pk s k:=⟨_,rfl⟩
 have HC:XX (pk s k=c):=hc.symm;obtain⟨R,hR⟩:∃R,R=iU s k:=⟨_,rfl⟩
 have HR:XX (R=iU s k):=hR;rw[<-hR];rw[<-hc]at bF;have hq:=aiw c;obtain⟨q,lo,hi,Mh⟩:∃q lo hi,fT c=(q,lo,hi):=⟨_,_,_,rfl⟩
 have HQ:XX (fT c=(q,lo,hi)):=Mh;rw[Mh]at hq;simp only at hq;obtain⟨q0,q1,q2,q3,q4,q5,q6⟩:=hq;clear hp hT hc hR Mh g0 g2 g3;by_cases hz:q=0
 .subst hz;have HF:XX (R=(k,(k:O))):=by show _=_;rw[HR.o,iU,HC.o,HQ.o];rfl
  go_enter func101,ntmps101;go_wp2_with fail;refine(eT b s k op lg _ HP.o (by omega) hs).mono ?_;rintro e w1 ⟨rfl,n1,rfl⟩;rw[HC.o];go_wp2_with fail;refine(UF c _ bF.1 bF.2).mono ?_;rintro e w2 ⟨rfl,rfl⟩;rw[HQ.o,NB];go_wp2_with fail;refine(pC b s k op lg _ (HP.o.drewN _)).mono ?_;rintro e w3 ⟨rfl,n3,rfl⟩;go_wp2_with fail;go_ret2;refine⟨?_,(ab.refl _ _).drewN _,by rw[HF.o];exact HP.o.drewN _⟩;rw[HF.o,Cz,Zb (by simp)];rfl
 .have hzb:(q==0)=Zd:=Zm.2 hz;have HF:XX (R=gD s (q-1).toNat lo hi (k+1)):=by show _=_;rw[HR.o,iU,HC.o,HQ.o];simp only;rw[Zb hz]
  go_enter func101,ntmps101;go_wp2_with fail;refine(eT b s k op lg _ HP.o (by omega) hs).mono ?_;rintro e w1 ⟨rfl,n1,rfl⟩;rw[HC.o];go_wp2_with fail;refine(UF c _ bF.1 bF.2).mono ?_;rintro e w2 ⟨rfl,rfl⟩;rw[HQ.o,NB];go_wp2_with fail;go_loopg [35,6,7] 4 (λg i l h wr=>∃(m:Za) (lo' oX:O),g=4-m/\i=.int .i64 m/\l=.int .u8 lo'/\h=.int .u8 oX/\(m:O)<=q-1/\0<=lo'/\lo'<=255/\0<=oX/\oX<=255/\(0<lo'\/q=1)/\k+1+m<=s.size/\gD s ((q-1).toNat-m) lo' oX (k+1+m)=R/\ab b w wr/\PS wr b s (k+1+m) op lg J)
  case atStart=>
   exact⟨0,lo,hi,rfl,rfl,rfl,rfl,by omega,q2,q3,q4,q5,by rcases Zx c 128 with h|h;(· right;rcases CJ (c:=c)with⟨_,e⟩|⟨_,_,e⟩|⟨_,_,e⟩|⟨_,e⟩|⟨_,e⟩|⟨_,_,_,e⟩|⟨_,e⟩|⟨_,_,e⟩|⟨_,e⟩|⟨_,e⟩ <;> (rw[HQ.o]at e;simp only[Zc]at e;omega));(· left;exact q6 hz h),by omega,HF.o.symm,((ab.refl _ _).drewN _).setCell _ _,(HP.o.drewN _).at (k+1) (by omega)⟩
  case round=>
   obtain⟨m,lo',oX,hg,rfl,rfl,rfl,hmq,l0,l1,h0,h1,hl,kO,Rx,ar,aC⟩:=hrel;have aX:XX (PS wr b s (k+1+m) op lg J):=aC;have HG:XX (gk=4-m):=hg;have JF:XX (gD s ((q-1).toNat-m) lo' oX (k+1+m)=R):=Rx;obtain⟨y0,y1,y2,y3,yf⟩:=iq aC.1;have BB:=wm s (k+1+m);obtain⟨x,hx⟩:∃x,x=pk s (k+1+m):=⟨_,rfl⟩
   have HX:XX (pk s (k+1+m)=x):=hx.symm;have zQ:0<x->k+1+m<s.size:=λh=>Nj (by omega)
   rw[<-hx]at BB;clear aC hg Rx hx g1 hf y2 y3 q6;by_cases ai:(m:O)<q-1
   .clear y0;have hn:(q-1).toNat-m=((q-1).toNat-(m+1))+1:=by omega
    by_cases eB:lo'<=x/\x<=oX
    .obtain⟨i1,i2⟩:=eB;have Ff:=zQ (by omega);have HN:XX (gD s ((q-1).toNat-(m+1)) 128 191 (k+1+(m+1))=R):=by
      show _=_;rw[<-JF.o,hn,gD,HX.o,Zg ⟨i1,i2⟩];rfl
     clear hn zQ;go_wp2_with fail;refine(eT b s (k+1+m) op lg _ aX.o (by omega) hs).mono ?_;rintro e w3 ⟨rfl,n3,rfl⟩;rw[HX.o];go_wp2_with fail;go_roundg (4-(m+1))
     case measure=>rw[HG.o];omega
     case rel=>exact⟨m+1,128,191,rfl,by go_num,rfl,rfl,by omega,by omega,by omega,by omega,by omega,by omega,by omega,HN.o,(ar.drewN _).setCell _ _,(aX.o.drewN _).at (k+1+(m+1)) (by omega)⟩
    .have HN:XX (R=(k+1+m,((k+1+m:Za):O))):=by
      show _=_;rw[<-JF.o,hn,gD,HX.o,Zb eB]
     clear hn zQ;rcases(show x<lo'\/(lo'<=x/\oX<x)from by omega)with eB|⟨eB,al8⟩
     all_goals
      go_wp2_with fail;refine(eT b s (k+1+m) op lg _ aX.o (by omega) hs).mono ?_;rintro e w3 ⟨rfl,n3,rfl⟩;rw[HX.o];go_wp2_with fail;refine(pC b s (k+1+m) op lg _ (aX.o.drewN _)).mono ?_;rintro e w4 ⟨rfl,n4,rfl⟩;go_wp2_with fail;go_ret2;refine⟨?_,ar.drewN _,by rw[HN.o];exact aX.o.drewN _⟩;rw[HN.o,Cz,Zb (by simp;omega)];rfl
   .have HN:XX (R=(k+1+m,-1)):=by
     show _=_;rw[<-JF.o,show(q-1).toNat-m=0 by omega,gD]
    have Q8:kE wr:=I2 HT.o ar fD;have DF:XX (kE wr):=Q8;have b1:(k:O)<=((k+1+m:Za):O):=by omega
    have b2:((k+1+m:Za):O)<=(s.size:O):=by omega
    clear Q8 zQ;go_wp2_with fail
    go_region_with (go_at_call 153;(refine(Tryz.utf8_DecodeRuneInString (s.extract k (k+1+m)) wr.drew (show kE wr.drew from DF.o)).mono ?_;rintro e w5 ⟨rfl,pX⟩))
    all_goals
     have jm:ab b w w5:=(ar.drew).of_below pX;have hP5:PS w5 b s (k+1+m) op lg J:=⟨(pX.block b (al aX.o.1)).trans aX.o.1,(pX.block _ (al aX.o.2.1)).trans aX.o.2.1,aX.o.2.2⟩
     go_wp2_with fail;go_ret2;refine⟨?_,jm,by rw[HN.o];exact hP5⟩;rw[HN.o,Cz,Zg (by simp)];rfl
def zW(c:O):O:=if 65<=c/\c<=90 then c+32 else c
theorem wf(c:O)(w:Zk)(h0:0<=c)(h1:c<=255):Zl prog 225 #[.int .u8 c] w λe w'=>e=.returned (.int .u8 (zW c))/\w=w':=by
 rcases(show c<65\/(65<=c/\c<=90)\/90<c from by omega)with h|h|h
 .rw[zW,Zb (by omega)];go_enter func225,ntmps225;go_wp2;go_ret;exact⟨rfl,rfl⟩
 .obtain⟨h,h'⟩:=h;rw[zW,Zg ⟨h,h'⟩];go_enter func225,ntmps225;go_wp2;go_ret;exact⟨by rw[show c+32=c+97-65 from by omega];rfl,rfl⟩
 .rw[zW,Zb (by omega)];go_enter func225,ntmps225;go_wp2;go_ret;exact⟨rfl,rfl⟩
def RH:List UInt8:=[48,49,50,51,52,53,54,55,56,57,97,98,99,100,101,102]
theorem ad6:∀c:Fin 256,Lib.indexByte RH ((zW (c.val:O)).toNat.toUInt8)=cR (c.val:O):=by decide
theorem ad5(h0:0<=c)(h1:c<=255):Lib.indexByte RH ((zW c).toNat.toUInt8)=cR c:=by
 have:=ad6 ⟨c.toNat,by omega⟩;simpa[show((c.toNat:Za):O)=c from by omega]using this
theorem ad9(s:Zf)(k:Za):cR (pk s k)=cR (gb s k):=by
 rcases Cy (s:=s) (k:=k)with⟨h,_⟩|⟨h1,h2⟩
 .rw[h]
 .rw[h1,h2];rfl
theorem vk(s:Zf)(k:Za)(w:Zk):Zl prog 120 #[.string ⟨#[48,49,50,51,52,53,54,55,56,57,97,98,99,100,101,102]⟩,.int .u8 (zW (pk s k))] w λe w'=>e=.returned (.int .i64 (cR (gb s k)))/\w=w':=by
 refine(Tryz.strings_IndexByte _ _ w).mono ?_;rintro e w' ⟨rfl,rfl⟩;have hb:=wm s k;refine⟨?_,rfl⟩;rw[<-ad9,<-ad5 hb.1 hb.2];rfl
def dZ(s:Zf)(low:Zj):Za->O->Za->O×Za×O
 |0,u,k=>(u,k,-1)
 |r+1,u,k=>
  if cR (gb s k)<0\/(r=3/\low=Zh/\cR (gb s k)≠13)then(0,k,k)
  else if r=2/\decide ((u*16+cR (gb s k))/4=55)≠low then(0,k,k)
  else dZ s low r (u*16+cR (gb s k)) (k+1)
def rW(J:Addr)(r:O×Za×O):Zn:=if r.2.2<0 then .tuple #[.int .i32 r.1,.nilIface]else .tuple #[.int .i32 0,aG J r.2.1]
theorem agU(u d:Za)(hu:u<4096)(hd:d<16):bits Zp Zr ((u*16:Za):O) (d:O)=((u*16+d:Za):O):=by
 have ho:(u*16) ||| d=u*16+d:=by
  have:=Za.two_pow_add_eq_or_of_lt (i:=4) (b:=d) (by omega) u;rw[show u*16=2^4*u by omega];exact this.symm
 have hx:(u*16) ||| d<2^32:=by omega
 have h1:(Zq 32 ((u*16:Za):O)).toNat=u*16:=by
  rw[Zv,Zw];exact Zy (by omega)
 have h2:(Zq 32 (d:O)).toNat=d:=by
  rw[Zv,Zw];exact Zy (by omega)
 show IntKind.i32.wrap ((Zq 32 ((u*16:Za):O) ||| Zq 32 (d:O)).toNat:O)=_;rw[BitVec.toNat_or,h1,h2,ho,IntKind.wrap_i32];omega
theorem TN{x:Za}(hx:x<4096)(h0:0<=d)(h1:d<=15):bits Zp Zr (wrap32 ((x:O)*16)) d=((x*16+d.toNat:Za):O):=by
 rw[<-agU x d.toNat hx (by omega)]
 congr 1
 .unfold wrap32;omega
 .omega
theorem FN(b:Za)(s:Zf)(k:Za)(op:O)(lg low:Zj)(w:Zk)(hp:PS w b s k op lg J)(hk:k<=s.size)(hs:s.size<=1000):
 Zl prog 194 #[.pointer (Ze ⟨b,0,Zi⟩),.bool low] w λe w'=>e=.returned (rW J (dZ s low 4 0 k))/\ab b w w'/\PS w' b s (dZ s low 4 0 k).2.1 op lg J:=by
 have HP:XX (PS w b s k op lg J):=hp;obtain⟨R,hR⟩:∃R,R=dZ s low 4 0 k:=⟨_,rfl⟩
 have HR:XX (dZ s low 4 0 k=R):=hR.symm;rw[<-hR];clear hp hR;go_enter func194,ntmps194;go_wp2_with fail;go_loopg [9,6] 4 (λg i u wr=>∃(m:Za) (x:Za),g=4-m/\m<=4/\i=.int .i64 m/\u=.int .i32 (x:O)/\x<16^m/\k+m<=s.size/\dZ s low (4-m) x (k+m)=R/\ab b w wr/\PS wr b s (k+m) op lg J)
 case atStart=>exact⟨0,0,rfl,by omega,rfl,rfl,by omega,by omega,HR.o,ab.refl _ _,HP.o⟩
 case round=>
  obtain⟨m,x,hg,hm,rfl,rfl,hx,kO,hu,ar,aC⟩:=hrel;have aX:XX (PS wr b s (k+m) op lg J):=aC;have HG:XX (gk=4-m):=hg;have HU:XX (dZ s low (4-m) x (k+m)=R):=hu;obtain⟨y0,y1,y2,y3,yf⟩:=iq aC.1;have bF:=wm s (k+m);have nC:=xu (gb s (k+m));obtain⟨d,hd⟩:∃d,d=cR (gb s (k+m)):=⟨_,rfl⟩
  have HD:XX (cR (gb s (k+m))=d):=hd.symm;have Hu:0<=d->k+m<s.size:=λh=>by
   apply cC
   rcases Zx (gb s (k+m)) 0 with hh|hh
   .have:=Hw hh;omega
   .exact hh
  rw[<-hd]at nC;clear aC hg hu hd y0 y2 y3;by_cases h4:m<4
  .have Pe:XX (x<4096):=by
    show x<4096;have:16^m<=16^3:=Za.pow_le_pow_right (by omega) (by omega);omega
   obtain⟨r,hr⟩:∃r,4-m=r+1:=⟨3-m,by omega⟩
   have HS:XX ((if d<0\/(m=0/\low=Zh/\d≠13)then(0,k+m,((k+m:Za):O))else if m=1/\decide (((x:O)*16+d)/4=55)≠low then(0,k+m,((k+m:Za):O))else dZ s low (4-(m+1)) ((x:O)*16+d) (k+(m+1)))=R):=by
    show _=_;rw[<-HU.o,hr,dZ,HD.o,show 4-(m+1)=r by omega];have e1:(r=3)=(m=0):=by rw[eq_iff_iff];omega
    have e2:(r=2)=(m=1):=by rw[eq_iff_iff];omega
    simp only[e1,e2,Za.add_assoc]
   clear hr;by_cases hneg:d<0
   .have HN:XX (R=(0,k+m,((k+m:Za):O))):=by show _=_;rw[<-HS.o,Zg (.inl hneg)]
    clear Hu;go_wp2_with fail;refine(eT b s (k+m) op lg _ aX.o kO hs).mono ?_;rintro e w3 ⟨rfl,n3,rfl⟩;go_wp2_with fail;refine(wf _ _ bF.1 bF.2).mono ?_;rintro e w4 ⟨rfl,rfl⟩;go_wp2_with fail;refine(vk s (k+m) _).mono ?_;rintro e w5 ⟨rfl,rfl⟩;rw[HD.o];go_wp2_with fail;refine(pC b s (k+m) op lg _ (aX.o.drewN _)).mono ?_;rintro e w6 ⟨rfl,n6,rfl⟩;go_wp2_with fail;go_ret2;refine⟨?_,ar.drewN _,by rw[HN.o];exact aX.o.drewN _⟩;rw[HN.o,rW,Zb (by show ¬((_:Za):O)<0;omega)];rfl
   .have rG:=Hu (by omega);have Kd:XX (x*16+d.toNat<16^(m+1)):=by show _<_;rw[Za.pow_succ];omega
    clear Hu;rcases(show m=0\/m=1\/2<=m from by omega)with hm0|zB|o9
    .subst hm0;have es:x=0:=by simpa using hx
     cases low
     .have HN:XX (dZ s Zd (4-(0+1)) ((x:O)*16+d) (k+(0+1))=R):=by
       show _=_;rw[<-HS.o,Zb (by simp;omega),Zb (by simp)]
      go_wp2_with fail;refine(eT b s (k+0) op lg _ aX.o kO hs).mono ?_;rintro e w3 ⟨rfl,n3,rfl⟩;go_wp2_with fail;refine(wf _ _ bF.1 bF.2).mono ?_;rintro e w4 ⟨rfl,rfl⟩;go_wp2_with fail;refine(vk s (k+0) _).mono ?_;rintro e w5 ⟨rfl,rfl⟩;rw[HD.o];go_wp2_with fail;go_roundg (4-(0+1))
      case measure=>rw[HG.o];omega
      case rel=>exact⟨0+1,x*16+d.toNat,rfl,by omega,by go_num,Zo _ (by omega),Kd.o,by omega,by rw[<-HN.o];congr 1;omega,(ar.drewN _).setCell _ _,(aX.o.drewN _).at (k+(0+1)) (by omega)⟩
     .by_cases mB:d=13
      .subst mB;have HN:XX (dZ s Zh (4-(0+1)) ((x:O)*16+13) (k+(0+1))=R):=by
        show _=_;rw[<-HS.o,Zb (by simp),Zb (by simp)]
       go_wp2_with fail;refine(eT b s (k+0) op lg _ aX.o kO hs).mono ?_;rintro e w3 ⟨rfl,n3,rfl⟩;go_wp2_with fail;refine(wf _ _ bF.1 bF.2).mono ?_;rintro e w4 ⟨rfl,rfl⟩;go_wp2_with fail;refine(vk s (k+0) _).mono ?_;rintro e w5 ⟨rfl,rfl⟩;rw[HD.o];go_wp2_with fail;go_roundg (4-(0+1))
       case measure=>rw[HG.o];omega
       case rel=>exact⟨0+1,x*16+13,rfl,by omega,by go_num,Zo _ (by omega),Kd.o,by omega,by rw[<-HN.o];congr 1,(ar.drewN _).setCell _ _,(aX.o.drewN _).at (k+(0+1)) (by omega)⟩
      .have n13:(d != 13)=Zh:=by rw[bne_iff_ne];exact mB
       have HN:XX (R=(0,k+0,((k+0:Za):O))):=by
        show _=_;rw[<-HS.o,Zg (.inr ⟨rfl,rfl,mB⟩)]
       go_wp2_with fail;refine(eT b s (k+0) op lg _ aX.o kO hs).mono ?_;rintro e w3 ⟨rfl,n3,rfl⟩;go_wp2_with fail;refine(wf _ _ bF.1 bF.2).mono ?_;rintro e w4 ⟨rfl,rfl⟩;go_wp2_with fail;refine(vk s (k+0) _).mono ?_;rintro e w5 ⟨rfl,rfl⟩;rw[HD.o];go_wp2_with fail;refine(pC b s (k+0) op lg _ (aX.o.drewN _)).mono ?_;rintro e w6 ⟨rfl,n6,rfl⟩;go_wp2_with fail;go_ret2;refine⟨?_,ar.drewN _,by rw[HN.o];exact aX.o.drewN _⟩;rw[HN.o,rW,Zb (by show ¬((_:Za):O)<0;omega)];rfl
    .subst zB;obtain⟨y,hy⟩:∃y:O,y=(x:O)*16+d:=⟨_,rfl⟩
     have ho:bits Zp Zr (wrap32 ((x:O)*16)) d=y:=by rw[TN Pe.o (by omega) (by omega)];omega
     have amJ:x<16:=by simpa using hx
     have ho':bits Zp Zr ((x:O)*16) d=y:=by rw[<-ho];congr 1;unfold wrap32;omega
     have HY:XX (y=(x:O)*16+d):=hy;have hy0:0<=y:=by omega
     have Fh:y<=255:=by omega
     have yz:XX ((if d<0\/((1:Za)=0/\low=Zh/\d≠13)then(0,k+1,((k+1:Za):O))else if(1:Za)=1/\decide (y/4=55)≠low then(0,k+1,((k+1:Za):O))else dZ s low (4-(1+1)) y (k+(1+1)))=R):=by show _=_;rw[HY.o];exact HS.o
     clear hy HS;by_cases h55:y/4=55
     .have bP:(y/4==55)=Zh:=by rw[beq_iff_eq];exact h55
      cases low
      .have HN:XX (R=(0,k+1,((k+1:Za):O))):=by show _=_;rw[<-yz.o,Zb (by simp;omega),Zg ⟨rfl,by simp[h55]⟩]
       go_wp2_with fail;refine(eT b s (k+1) op lg _ aX.o kO hs).mono ?_;rintro e w3 ⟨rfl,n3,rfl⟩;go_wp2_with fail;refine(wf _ _ bF.1 bF.2).mono ?_;rintro e w4 ⟨rfl,rfl⟩;go_wp2_with fail;refine(vk s (k+1) _).mono ?_;rintro e w5 ⟨rfl,rfl⟩;rw[HD.o];go_wp2_with fail;refine(pC b s (k+1) op lg _ (aX.o.drewN _)).mono ?_;rintro e w6 ⟨rfl,n6,rfl⟩;go_wp2_with fail;go_ret2;refine⟨?_,ar.drewN _,by rw[HN.o];exact aX.o.drewN _⟩;rw[HN.o,rW,Zb (by show ¬((_:Za):O)<0;omega)];rfl
      .have HN:XX (dZ s Zh (4-(1+1)) y (k+(1+1))=R):=by show _=_;rw[<-yz.o,Zb (by simp;omega),Zb (by simp[h55])]
       go_wp2_with fail;refine(eT b s (k+1) op lg _ aX.o kO hs).mono ?_;rintro e w3 ⟨rfl,n3,rfl⟩;go_wp2_with fail;refine(wf _ _ bF.1 bF.2).mono ?_;rintro e w4 ⟨rfl,rfl⟩;go_wp2_with fail;refine(vk s (k+1) _).mono ?_;rintro e w5 ⟨rfl,rfl⟩;rw[HD.o];go_wp2_with fail;go_roundg (4-(1+1))
       case measure=>rw[HG.o];omega
       case rel=>exact⟨1+1,y.toNat,rfl,by omega,by go_num,Zo _ (by omega),by omega,by omega,by rw[<-HN.o];congr 1;omega,(ar.drewN _).setCell _ _,(aX.o.drewN _).at (k+(1+1)) (by omega)⟩
     .have bP:(y/4==55)=Zd:=Zm.2 h55;cases low
      .have HN:XX (dZ s Zd (4-(1+1)) y (k+(1+1))=R):=by show _=_;rw[<-yz.o,Zb (by simp;omega),Zb (by simp[h55])]
       go_wp2_with fail;refine(eT b s (k+1) op lg _ aX.o kO hs).mono ?_;rintro e w3 ⟨rfl,n3,rfl⟩;go_wp2_with fail;refine(wf _ _ bF.1 bF.2).mono ?_;rintro e w4 ⟨rfl,rfl⟩;go_wp2_with fail;refine(vk s (k+1) _).mono ?_;rintro e w5 ⟨rfl,rfl⟩;rw[HD.o];go_wp2_with fail;go_roundg (4-(1+1))
       case measure=>rw[HG.o];omega
       case rel=>exact⟨1+1,y.toNat,rfl,by omega,by go_num,Zo _ (by omega),by omega,by omega,by rw[<-HN.o];congr 1;omega,(ar.drewN _).setCell _ _,(aX.o.drewN _).at (k+(1+1)) (by omega)⟩
      .have HN:XX (R=(0,k+1,((k+1:Za):O))):=by show _=_;rw[<-yz.o,Zb (by simp;omega),Zg ⟨rfl,by simp[h55]⟩]
       go_wp2_with fail;refine(eT b s (k+1) op lg _ aX.o kO hs).mono ?_;rintro e w3 ⟨rfl,n3,rfl⟩;go_wp2_with fail;refine(wf _ _ bF.1 bF.2).mono ?_;rintro e w4 ⟨rfl,rfl⟩;go_wp2_with fail;refine(vk s (k+1) _).mono ?_;rintro e w5 ⟨rfl,rfl⟩;rw[HD.o];go_wp2_with fail;refine(pC b s (k+1) op lg _ (aX.o.drewN _)).mono ?_;rintro e w6 ⟨rfl,n6,rfl⟩;go_wp2_with fail;go_ret2;refine⟨?_,ar.drewN _,by rw[HN.o];exact aX.o.drewN _⟩;rw[HN.o,rW,Zb (by show ¬((_:Za):O)<0;omega)];rfl
    .have n0:((m:O)==0)=Zd:=Zm.2 (by omega);have n1:((m:O)==1)=Zd:=Zm.2 (by omega);go_wp2_with fail;refine(eT b s (k+m) op lg _ aX.o kO hs).mono ?_;rintro e w3 ⟨rfl,n3,rfl⟩;go_wp2_with fail;refine(wf _ _ bF.1 bF.2).mono ?_;rintro e w4 ⟨rfl,rfl⟩;go_wp2_with fail;refine(vk s (k+m) _).mono ?_;rintro e w5 ⟨rfl,rfl⟩;rw[HD.o];go_wp2_with fail;go_roundg (4-(m+1))
     case measure=>rw[HG.o];omega
     case rel=>exact⟨m+1,x*16+d.toNat,rfl,by omega,by go_num,Zo _ (TN Pe.o (by omega) (by omega)),Kd.o,by omega,by rw[<-HS.o,Zb (by omega),Zb (by omega)];congr 1;omega,(ar.drewN _).setCell _ _,(aX.o.drewN _).at (k+(m+1)) (by omega)⟩
  .have hme:m=4:=by omega
   have HN:XX (R=((x:O),k+m,-1)):=by show _=_;rw[<-HU.o,show 4-m=0 by omega,dZ]
   clear Hu;go_wp2_with fail;go_ret2;refine⟨?_,ar,by rw[HN.o];exact aX.o⟩;rw[HN.o,rW,Zg (by simp)];rfl
theorem BJ(s:Zf)(k:Za)(lo hi:O):
 (0<=cR (gb s k)/\lo<=cR (gb s k)/\cR (gb s k)<=hi/\bQ s k (-1) lo hi=(cR (gb s k),k+1,-1))\/((cR (gb s k)<lo\/hi<cR (gb s k)\/cR (gb s k)<0)/\bQ s k (-1) lo hi=(0,k,(k:O))):=by
 by_cases h:cR (gb s k)<lo\/hi<cR (gb s k)\/cR (gb s k)<0
 .right;refine⟨h,?_⟩;rw[bQ,ct,Zg h,rp]
 .left;refine⟨by omega,by omega,by omega,?_⟩;rw[bQ,ct,Zb h]
theorem mH(s:Zf)(k:Za)(lo hi:O)(h:0<=bad):bQ s k bad lo hi=(0,k,bad):=by
 rw[bQ,ro s k h,Zg (by rw[Hw (by omega)];omega),xd k h]
theorem aj9(s:Zf)(c:UInt8)(l:List UInt8)(k:Za)(h:0<=bad):aQ s k bad (c::l)=(k,bad):=by
 rw[aQ,ro s k h,Zb (by omega),xd k h]
theorem uF(s:Zf)(low:Zj)(r:Za)(u:O)(k:Za):dZ s low (r+1) u k =
 if cR (gb s k)<0\/(r=3/\low=Zh/\cR (gb s k)≠13)then(0,k,(k:O))
 else if r=2/\decide ((u*16+cR (gb s k))/4=55)≠low then(0,k,(k:O))
 else dZ s low r (u*16+cR (gb s k)) (k+1):=rfl
theorem Vf{low:Zj}{u:O}(h3:bQ s k (-1) 0 15=(c,k3,b3))(h4:bQ s k3 b3 0 15=(d,k4,b4)):
 (b4=-1/\dZ s low 2 u k=((u*16+c)*16+d,k4,b4))\/(0<=b4/\(k4:O)=b4/\dZ s low 2 u k=(0,k4,b4)):=by
 have hb:=xu (gb s k);rw[show dZ s low 2 u k=_ from uF s low 1 u k];rcases BJ s k 0 15 with⟨g0,g1,g2,e⟩|⟨g,e⟩
 .rw[e,Zc,Zc]at h3;obtain⟨rfl,rfl,rfl⟩:=h3;rw[Zb (by omega),Zb (by omega),show ∀x,dZ s low 1 x (k+1)=_ from λx=>uF s low 0 x (k+1)];have ah:=xu (gb s (k+1));rcases BJ s (k+1) 0 15 with⟨q0,q1,q2,e2⟩|⟨q,e2⟩
  .rw[e2,Zc,Zc]at h4;obtain⟨rfl,rfl,rfl⟩:=h4
   left;rw[Zb (by omega),Zb (by omega),dZ];exact⟨rfl,rfl⟩
  .rw[e2,Zc,Zc]at h4;obtain⟨rfl,rfl,rfl⟩:=h4
   right;rw[Zg (.inl (by omega))];exact⟨by omega,rfl,rfl⟩
 .rw[e,Zc,Zc]at h3;obtain⟨rfl,rfl,rfl⟩:=h3;rw[mH s k 0 15 (by omega),Zc,Zc]at h4;obtain⟨rfl,rfl,rfl⟩:=h4
  right;rw[Zg (.inl (by omega))];exact⟨by omega,rfl,rfl⟩
theorem Vg{a b m:O}(h1:bQ s k (-1) 0 15=(a,k1,b1))(hm:m=if a=13 then 11 else 15)(h2:bQ s k1 b1 0 m=(b,k2,b2))(h3:bQ s k2 b2 0 15=(c,k3,b3))(h4:bQ s k3 b3 0 15=(d,k4,b4)):
 (b4=-1/\dZ s Zd 4 0 k=(((a*16+b)*16+c)*16+d,k4,b4))\/(0<=b4/\(k4:O)=b4/\dZ s Zd 4 0 k=(0,k4,b4)):=by
 have hb:=xu (gb s k);rw[show dZ s Zd 4 0 k=_ from uF s Zd 3 0 k];rcases BJ s k 0 15 with⟨g0,g1,g2,e⟩|⟨g,e⟩
 .rw[e,Zc,Zc]at h1;obtain⟨rfl,rfl,rfl⟩:=h1;rw[Zb (by simp;omega),Zb (by omega),show ∀x,dZ s Zd 3 x (k+1)=_ from λx=>uF s Zd 2 x (k+1)];have ah:=xu (gb s (k+1));have o9:(cR (gb s k)=13/\m=11)\/(cR (gb s k)≠13/\m=15):=by split at hm <;> omega
  rcases BJ s (k+1) 0 m with⟨q0,q1,q2,e2⟩|⟨q,e2⟩
  .rw[e2,Zc,Zc]at h2;obtain⟨rfl,rfl,rfl⟩:=h2;rw[Zb (by simp;omega),Zb (by simp;omega)];have:=Vf (s:=s) (low:=Zd) (u:=(0*16+cR (gb s k))*16+cR (gb s (k+1))) h3 h4;simpa using this
  .rw[e2,Zc,Zc]at h2;obtain⟨rfl,rfl,rfl⟩:=h2;rw[mH s _ 0 15 (by omega),Zc,Zc]at h3;obtain⟨rfl,rfl,rfl⟩:=h3;rw[mH s _ 0 15 (by omega),Zc,Zc]at h4;obtain⟨rfl,rfl,rfl⟩:=h4
   right
   refine⟨by omega,rfl,?_⟩;by_cases hn:cR (gb s (k+1))<0
   .rw[Zg (.inl hn)]
   .rw[Zb (by simp;omega),Zg ⟨rfl,by simp;omega⟩]
 .rw[e,Zc,Zc]at h1;obtain⟨rfl,rfl,rfl⟩:=h1;rw[mH s _ 0 _ (by omega),Zc,Zc]at h2;obtain⟨rfl,rfl,rfl⟩:=h2;rw[mH s _ 0 15 (by omega),Zc,Zc]at h3;obtain⟨rfl,rfl,rfl⟩:=h3;rw[mH s _ 0 15 (by omega),Zc,Zc]at h4;obtain⟨rfl,rfl,rfl⟩:=h4
  right;rw[Zg (.inl (by omega))];exact⟨by omega,rfl,rfl⟩
theorem Vh{x e f g:O}(h1:bQ s k (-1) 13 13=(x,k1,b1))(h2:bQ s k1 b1 12 15=(e,k2,b2))(h3:bQ s k2 b2 0 15=(f,k3,b3))(h4:bQ s k3 b3 0 15=(g,k4,b4)):
 (b4=-1/\dZ s Zh 4 0 k=(((13*16+e)*16+f)*16+g,k4,b4))\/(0<=b4/\(k4:O)=b4/\dZ s Zh 4 0 k=(0,k4,b4)):=by
 have hb:=xu (gb s k);rw[show dZ s Zh 4 0 k=_ from uF s Zh 3 0 k];rcases BJ s k 13 13 with⟨g0,g1,g2,e1⟩|⟨g1,e1⟩
 .rw[e1,Zc,Zc]at h1;obtain⟨hx,rfl,rfl⟩:=h1;have mB:cR (gb s k)=13:=by omega
  rw[Zb (by simp;omega),Zb (by omega),show ∀x,dZ s Zh 3 x (k+1)=_ from λx=>uF s Zh 2 x (k+1),mB];have ah:=xu (gb s (k+1));rcases BJ s (k+1) 12 15 with⟨q0,q1,q2,e2⟩|⟨q,e2⟩
  .rw[e2,Zc,Zc]at h2;obtain⟨rfl,rfl,rfl⟩:=h2;rw[Zb (by simp;omega),Zb (by simp;omega)];have:=Vf (s:=s) (low:=Zh) (u:=(0*16+13)*16+cR (gb s (k+1))) h3 h4;simpa using this
  .rw[e2,Zc,Zc]at h2;obtain⟨rfl,rfl,rfl⟩:=h2;rw[mH s _ 0 15 (by omega),Zc,Zc]at h3;obtain⟨rfl,rfl,rfl⟩:=h3;rw[mH s _ 0 15 (by omega),Zc,Zc]at h4;obtain⟨rfl,rfl,rfl⟩:=h4
   right
   refine⟨by omega,rfl,?_⟩;by_cases hn:cR (gb s (k+1))<0
   .rw[Zg (.inl hn)]
   .rw[Zb (by simp;omega),Zg ⟨rfl,by simp;omega⟩]
 .rw[e1,Zc,Zc]at h1;obtain⟨rfl,rfl,rfl⟩:=h1;rw[mH s _ 12 _ (by omega),Zc,Zc]at h2;obtain⟨rfl,rfl,rfl⟩:=h2;rw[mH s _ 0 15 (by omega),Zc,Zc]at h3;obtain⟨rfl,rfl,rfl⟩:=h3;rw[mH s _ 0 15 (by omega),Zc,Zc]at h4;obtain⟨rfl,rfl,rfl⟩:=h4
  right;rw[Zg (by simp;omega)];exact⟨by omega,rfl,rfl⟩
def lx(s:Zf)(k:Za):O×Za×O:=
 if 0<=(dZ s Zd 4 0 k).2.2\/(dZ s Zd 4 0 k).1/1024≠54 then dZ s Zd 4 0 k
 else if 0<=(aQ s (dZ s Zd 4 0 k).2.1 (-1) [92,117]).2 then(0,aQ s (dZ s Zd 4 0 k).2.1 (-1) [92,117])
 else(65536+((dZ s Zd 4 0 k).1-55296)*1024+((dZ s Zh 4 0 (aQ s (dZ s Zd 4 0 k).2.1 (-1) [92,117]).1).1-56320),(dZ s Zh 4 0 (aQ s (dZ s Zd 4 0 k).2.1 (-1) [92,117]).1).2)
theorem Jl:∀{l:List UInt8} {k:Za},(aQ s k (-1) l).2=-1\/(aQ s k (-1) l).2=((aQ s k (-1) l).1:O)
 |[],k=>by left;rfl
 |c::l,k=>by
  rw[aQ];split
  .exact Jl
  .right;rw[rp]
theorem Md(s:Zf)(k:Za):(lx s k).2=(gj s k (-1)).2/\((gj s k (-1)).2.2<0->(lx s k).1=(gj s k (-1)).1)/\((gj s k (-1)).2.2=-1\/(gj s k (-1)).2.2=((gj s k (-1)).2.1:O)):=by
 obtain⟨a,k1,b1,h1⟩:∃a k1 b1,bQ s k (-1) 0 15=(a,k1,b1):=⟨_,_,_,rfl⟩
 obtain⟨m,hm⟩:∃m:O,m=if a=13 then 11 else 15:=⟨_,rfl⟩
 obtain⟨b,k2,b2,h2⟩:∃b k2 b2,bQ s k1 b1 0 m=(b,k2,b2):=⟨_,_,_,rfl⟩
 obtain⟨c,k3,b3,h3⟩:∃c k3 b3,bQ s k2 b2 0 15=(c,k3,b3):=⟨_,_,_,rfl⟩
 obtain⟨d,k4,b4,h4⟩:∃d k4 b4,bQ s k3 b3 0 15=(d,k4,b4):=⟨_,_,_,rfl⟩
 obtain⟨k5,b5,h5⟩:∃k5 b5,aQ s k4 b4 [92,117]=(k5,b5):=⟨_,_,rfl⟩
 obtain⟨x,k6,b6,h6⟩:∃x k6 b6,bQ s k5 b5 13 13=(x,k6,b6):=⟨_,_,_,rfl⟩
 obtain⟨e,k7,b7,h7⟩:∃e k7 b7,bQ s k6 b6 12 15=(e,k7,b7):=⟨_,_,_,rfl⟩
 obtain⟨f,k8,b8,h8⟩:∃f k8 b8,bQ s k7 b7 0 15=(f,k8,b8):=⟨_,_,_,rfl⟩
 obtain⟨g,k9,b9,h9⟩:∃g k9 b9,bQ s k8 b8 0 15=(g,k9,b9):=⟨_,_,_,rfl⟩
 rcases Vg h1 hm h2 h3 h4 with⟨aB,hu⟩|⟨aB,em,hu⟩
 .have ET:=kg h4 (by omega);have lu:=kg h3 (by omega);have qI:=kg h2 (by omega);have mJ:=kg h1 (by omega);have o9:(a=13/\m=11)\/(a≠13/\m=15):=by split at hm <;> omega
  by_cases hn:a≠13\/b<8
  .rw[Eb h1 hm h2 h3 h4 hn,lx,hu];simp only;rw[Zg (by right;omega)];exact⟨rfl,λ_=>rfl,.inl aB⟩
  .rw[GS h1 hm h2 h3 h4 (by omega) (by omega) h5 h6 h7 h8 h9,lx,hu];simp only;rw[Zb (by omega)];have Hd:=h5;rw[aB]at Hd;rw[Hd];simp only;by_cases hw:0<=b5
   .rw[Zg hw];rw[mH s _ 13 13 hw,Zc,Zc]at h6;obtain⟨rfl,rfl,rfl⟩:=h6;rw[mH s _ 12 15 hw,Zc,Zc]at h7;obtain⟨rfl,rfl,rfl⟩:=h7;rw[mH s _ 0 15 hw,Zc,Zc]at h8;obtain⟨rfl,rfl,rfl⟩:=h8;rw[mH s _ 0 15 hw,Zc,Zc]at h9;obtain⟨rfl,rfl,rfl⟩:=h9;have em:=@Jl s [92,117] k4;rw[Hd]at em;exact⟨rfl,λh=>by omega,em⟩
   .rw[Zb hw];have h5m:b5=-1:=by
     have:=@Jl s [92,117] k4;rw[Hd]at this;simp only at this;omega
    rw[h5m]at h6;rcases Vh h6 h7 h8 h9 with⟨jd,hv⟩|⟨jd,aeV,hv⟩
    .rw[hv];exact⟨rfl,λ_=>by simp only;omega,.inl jd⟩
    .rw[hv];exact⟨rfl,λh=>by omega,.inr aeV.symm⟩
 .rw[lx,hu];simp only;rw[Zg (.inl aB)];by_cases hn:a≠13\/b<8
  .rw[Eb h1 hm h2 h3 h4 hn];exact⟨rfl,λh=>by simp only at h;omega,.inr em.symm⟩
  .rw[GS h1 hm h2 h3 h4 (by omega) (by omega) h5 h6 h7 h8 h9];rw[aj9 s _ _ _ aB,Zc]at h5;obtain⟨rfl,rfl⟩:=h5;rw[mH s _ 13 13 aB,Zc,Zc]at h6;obtain⟨rfl,rfl,rfl⟩:=h6;rw[mH s _ 12 15 aB,Zc,Zc]at h7;obtain⟨rfl,rfl,rfl⟩:=h7;rw[mH s _ 0 15 aB,Zc,Zc]at h8;obtain⟨rfl,rfl,rfl⟩:=h8;rw[mH s _ 0 15 aB,Zc,Zc]at h9;obtain⟨rfl,rfl,rfl⟩:=h9;exact⟨rfl,λh=>by simp only at h;omega,.inr em.symm⟩
end Go.Proofs.YtdlgkgfeoiohiaaGreatDoor
