/- Show of the program tells of every text what the document's Show tells: the law 'Shows' returns true for every string, and leaves it as it was. Conditions: the listed package-level variables hold what the program's text lays (tied by the card). -/
import Derived.Test.YtdlgkgfeoiohiaaGreatDoorA38
import Derived.Test.YtdlgkgfeoiohiaaGreatDoorCards
import Derived.Test.YtdlgkgfeoiohiaaGreatDoorTie
import Derived.ProofKit
import Derived.OpenShut
import Derived.Deep.DeepHandedRow
import Derived.Deep.DeepWitnessRowRef
import Derived.SevenTiedAt
namespace Go.Proofs.YtdlgkgfeoiohiaaGreatDoor
open Go.ChangeShapes Go.WideShapes Go.ChangeAt Go.RowKit
open Go.ChangeMaps (open_string shut_string)
set_option linter.unusedVariables false
set_option maxHeartbeats 16000000
set_option maxRecDepth 100000
theorem Tf:Rows.showsRow.laid=Rows.compactsRow.laid:=rfl
theorem aiq:(((begin Tryz.prog (λ_ _=>0) default).world.heap[2]?).bind Obj.row?)=some (#[.nilIface],29):=by kernel_rfl
theorem aiU{W:World}{L S N A J La:Addr}(h:fw W L S N A J La)(nB:W.ShapedOpen Tryz.prog):yO W S:=by
 obtain⟨cs,hh,hs,_⟩:=nB.1 2 _ _ (by rw[Ha];decide) aiq;have hc:=h.sents.cS;have ay:cs.size=1:=hs;have h0:cs[0]'(by omega)=.iface 279 (.pointer (some S)):=by
  simp only[World.cell?,hh]at hc;have h1:0<cs.size:=by omega
  simpa[h1]using hc
 have LE:cs=#[.iface 279 (.pointer (some S))]:=by
  apply Array.ext
  .simpa using ay
  .intro i h1 h2;obtain rfl:i=0:=by omega
   exact h0
 unfold yO;rw[hh,LE]
def Wf(os:Os)(w:World):Prop:=
 w.os=os/\(w.forCall (λ_ _=>0) ⟨#[],#[.string ⟨#[]⟩],[]⟩).variablesRefB Tryz.prog=true /\
 ((w.forCall (λ_ _=>0) ⟨#[],#[.string ⟨#[]⟩],[]⟩).heap.toList.drop Tryz.prog.globals.size).take ((begin Tryz.prog (λ_ _=>0) default).world.heap.size-Tryz.prog.globals.size)=(begin Tryz.prog (λ_ _=>0) default).world.heap.toList.drop Tryz.prog.globals.size /\
 Input.okWideB Tryz.prog (w.forCall (λ_ _=>0) ⟨#[],#[.string ⟨#[]⟩],[]⟩) 4 ⟨#[],#[.string ⟨#[]⟩],[]⟩=true /\
 laidMetH Tryz.prog Rows.showsRow.laid (w.forCall (λ_ _=>0) ⟨#[],#[.string ⟨#[]⟩],[]⟩).memory
set_option maxRecDepth 1000000 in
theorem acS(os:Os):∃w,Wf os w:=by
 refine⟨{ World.holding Tryz.prog os ⟨V3,#[],[]⟩with heap:=akz (World.holding Tryz.prog os ⟨V3,#[],[]⟩).heap (World.settled Tryz.prog default).heap.size },rfl,by kernel_rfl,by kernel_rfl,by kernel_rfl,?_⟩;rw[Tf];refine laidMetH_of_parts ?_ (by kernel_rfl);rw[V4];exact laidMet_of_run' 8 (by kernel_rfl) (by kernel_rfl)
theorem akE:ownKnob Tryz.prog.godebug=none:=by kernel_rfl
theorem aiG(H:Type)(enc:TypeId×Value->H)(W:World)(base:Nat)(args:Array Value)(ds gs:List (DataW H))(before:List MemPlace)
 (hval:∀(j:Nat) t v,Tryz.f4.params[j]?=some t->args[j]?=some v->Value.okWide Tryz.prog W .any base t v)
 (hW:DataW.Whole enc Tryz.prog Tryz.f4.params.toList Rows.showsSpec.vars false W args.toList ds gs before) (hL:laidMetH Tryz.prog Rows.showsRow.laid W) (nB:W.ShapedOpen Tryz.prog):
 Calls Tryz.prog 4 args W λe W'=>∃v,e=.returned v/\Rows.showsSpec.post enc Tryz.prog Tryz.f4 false true false false W args v W':=by
 have Bu:=hW;obtain⟨p,q,QL,hV,rfl,hfz,hnd⟩:=hW;have hA:DataW.TrodAll enc Tryz.prog W 0 (λ_=>true) true Tryz.f4.params.toList args.toList ds p:=QL;rw[Tryz.params4]at hA hval;obtain⟨v0,d0,rfl,rfl,h0⟩:=trodAll_one hA;obtain⟨rfl,rfl⟩:=trodVars_none hV;obtain⟨s,rfl,rfl,rfl,ws⟩:=open_string Tryz.underlying9 (hval 0 9 v0 rfl rfl) h0;clear QL;simp only[List.append_nil]at Bu;obtain⟨L,S,N,A,J,La,Sx⟩:=aiQ (Tf▸hL) nB;refine(aiF s W ws Sx (aiU Sx nB)).mono λe W' ⟨he,hb⟩=>?_
 subst he;have e1:Rows.showsSpec.fn H ([.lit (.string s.data.toList)]++[])={ results:=[.lit (.bool true)],args:=[.lit (.string s.data.toList)] }:=rfl;refine⟨_,rfl,_,_,_,[],[],[],Bu,?_,?_,?_,hb.frame _,λh=>by cases h⟩
 .rw[e1];exact trodAll_mk1 (shut_bool Tryz.underlying4 true)
 .rw[e1];exact trodAll_mk1 (shut_string Tryz.underlying9 ws)
 .rw[e1];rfl
theorem akH{H:Type}(enc:TypeId×Value->H)(w:World):∃places,DataW.whole enc Tryz.prog w Tryz.f4.params.toList Rows.showsSpec.vars false #[Value.string ⟨#[]⟩].toList 8=some ([.lit (.string [])],[],places):=
 ⟨[],by kernel_rfl⟩
theorem aiH(os:Os)(started:os.Started)(H:Type)(enc:TypeId×Value->H)(F:Stop.Interp):
 ReturnsInHanded {} Tryz.checked os 4 .any ((OpenSpec.ofChange Rows.showsSpec).preRow enc Tryz.prog Tryz.f4 Rows.showsRow.domain false Rows.showsRow.laid) (((OpenSpec.ofChange Rows.showsSpec).at F).post enc Tryz.prog Tryz.f4 false true false false):=by
 obtain⟨w,f1,f2,f3,f4,f5⟩:=acS os;obtain⟨places,hx⟩:=akH enc (w.forCall (λ_ _=>0) ⟨#[],#[.string ⟨#[]⟩],[]⟩).memory;refine returnsInHanded_of_row (C:=Tryz.checked) (s:=OpenSpec.ofChange Rows.showsSpec) akE started (by kernel_rfl) Tryz.func4
  (witness_row_atRef (enc:=enc) (C:=Tryz.checked) false w #[.string ⟨#[]⟩] f1 f2 f3 f4
   (OpenSpec.preRow_of_cond 8 hx (by kernel_rfl) (λk hk=>by cases hk) (by kernel_rfl) f5)) ?_
 intro W base args ds gs before hval hW _ _ _ hL nB _;exact aiG H enc W base args ds gs before hval hW hL nB
theorem aiJ:Rows.ShowsSaid:=
 OpenClaim.holds_of_cond 4 Tryz.f4 rfl rfl rfl rfl rfl rfl rfl ⟨rfl,rfl,rfl,rfl,rfl⟩ rfl rfl rfl rfl rfl (by kernel_rfl) Tryz.func4 (by kernel_rfl)
  (of_decide_eq_true (by kernel_rfl)) (by unfold Func.isWrapper;first|(rw[if_pos (by decide +kernel)];kernel_rfl)|(rw[if_neg (by decide +kernel)];exact⟨rfl,rfl⟩))
  (λos started H enc _ F=>by rw[OpenClaim.pre_eq_preRow];exact aiH os started H enc F)
theorem aiI (f : FuncId) (fn : Func) (hf : Tryz.pinned.checked.prog.funcNamed "pluck/plucklaw.Shows" = some f) (hfn : Tryz.pinned.checked.prog.funcs[f]? = some fn):
 true=Tryz.pinned.checked.prog.looks []/\∀(j:Nat) t,fn.params[j]?=some t->Tryz.pinned.checked.prog.wantsStandIn t=false:=by
 obtain rfl : f = 4 := Option.some.inj ((show Tryz.prog.funcNamed "pluck/plucklaw.Shows" = some 4 by kernel_rfl).symm.trans hf) |>.symm
 obtain rfl:fn=Tryz.f4:=(Option.some.inj (Tryz.func4.symm.trans hfn)).symm;refine⟨by kernel_rfl,λj t ht=>?_⟩;rw[Tryz.params4]at ht;obtain rfl:t=9:=by simpa using Array.mem_of_getElem? ht
 exact(show Tryz.prog.wantsStandIn 9=false by kernel_rfl)
theorem shows_card:Rows.ShowsCardSaid:=
 Claim7.holds_tied_plain_at .later [] _ _ _ _ aiJ (λ_ h=>by cases h) (by kernel_rfl) (λ_ h=>by cases h) shows_row_tie rfl ⟨rfl,rfl⟩ (by kernel_rfl) rfl aiI (by kernel_rfl)
#print axioms shows_card
end Go.Proofs.YtdlgkgfeoiohiaaGreatDoor
