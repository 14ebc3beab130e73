/- Compact of the program tells of every JSON text what the document's Compact tells: the law 'Compacts' returns true for every string, and leaves it as it was. Conditions: the listed package-level variables hold what the program's text lays (tied by the card). -/
import Derived.Test.YtjaoocincdoaaaaGreatDoorA17
import Derived.Test.YtjaoocincdoaaaaGreatDoorCards
import Derived.Test.YtjaoocincdoaaaaGreatDoorTie
import Derived.ProofKit
import Derived.OpenShut
import Derived.Deep.DeepHandedRow
import Derived.Deep.DeepWitnessRowRef
import Derived.SevenTiedAt
namespace Go.Proofs.YtjaoocincdoaaaaGreatDoor
open Go.ChangeShapes Go.WideShapes Go.ChangeAt Go.RowKit
open Go.ChangeMaps (open_string shut_string)

set_option linter.unusedVariables false

theorem zOwn : ownKnob Tryz.prog.godebug = none := by kernel_rfl

set_option maxRecDepth 100000 in
/-- What the walk gives, for every string and every world that holds the listed variables. -/
theorem compacts_contract (H : Type) (enc : TypeId × Value → H) (W : World) (base : Nat) (args : Array Value) (ds gs : List (DataW H)) (before : List MemPlace)
    (hval : ∀ (j : Nat) t v, Tryz.f3.params[j]? = some t → args[j]? = some v → Value.okWide Tryz.prog W .any base t v)
    (hW : DataW.Whole enc Tryz.prog Tryz.f3.params.toList Rows.compactsSpec.vars false W args.toList ds gs before) (hL : laidMetH Tryz.prog Rows.compactsRow.laid W) (hsh : W.ShapedOpen Tryz.prog) :
    Calls Tryz.prog 3 args W fun e W' => ∃ v, e = .returned v ∧ Rows.compactsSpec.post enc Tryz.prog Tryz.f3 false true false false W args v W' := by
  have hW' := hW
  obtain ⟨p, q, hA0, hV, rfl, hfz, hnd⟩ := hW
  have hA : DataW.TrodAll enc Tryz.prog W 0 (fun _ => true) true Tryz.f3.params.toList args.toList ds p := hA0
  rw [Tryz.params3] at hA hval
  obtain ⟨v0, d0, rfl, rfl, h0⟩ := trodAll_one hA
  obtain ⟨rfl, rfl⟩ := trodVars_none hV
  obtain ⟨s, rfl, rfl, rfl, ws⟩ := open_string Tryz.underlying9 (hval 0 9 v0 rfl rfl) h0
  clear hA0
  simp only [List.append_nil] at hW'
  obtain ⟨L, S, N, A, J, La, hstd⟩ := std_of hL hsh
  refine (compacts_any s W ws hstd).mono fun e W' ⟨he, hb⟩ => ?_
  subst he
  have e1 : Rows.compactsSpec.fn H ([.lit (.string s.data.toList)] ++ []) = { results := [.lit (.bool true)], args := [.lit (.string s.data.toList)] } := rfl
  refine ⟨_, rfl, _, _, _, [], [], [], hW', ?_, ?_, ?_, hb.frame _, fun h => by cases h⟩
  · rw [e1]; exact trodAll_mk1 (shut_bool Tryz.underlying4 true)
  · rw [e1]; exact trodAll_mk1 (shut_string Tryz.underlying9 ws)
  · rw [e1]; rfl

theorem zReads {H : Type} (enc : TypeId × Value → H) (w : World) : ∃ places, DataW.whole enc Tryz.prog w Tryz.f3.params.toList Rows.compactsSpec.vars false #[Value.string ⟨#[]⟩].toList 8 = some ([.lit (.string [])], [], places) :=
  ⟨[], by kernel_rfl⟩

set_option maxRecDepth 100000 in
theorem compacts_lifted (os : Os) (started : os.Started) (H : Type) (enc : TypeId × Value → H) (F : Stop.Interp) :
    ReturnsInHanded {} Tryz.checked os 3 .any ((OpenSpec.ofChange Rows.compactsSpec).preRow enc Tryz.prog Tryz.f3 Rows.compactsRow.domain false Rows.compactsRow.laid) (((OpenSpec.ofChange Rows.compactsSpec).at F).post enc Tryz.prog Tryz.f3 false true false false) := by
  obtain ⟨w, f1, f2, f3, f4, f5⟩ := fits_ex os
  obtain ⟨places, hx⟩ := zReads enc (w.forCall (fun _ _ => 0) ⟨#[], #[.string ⟨#[]⟩], []⟩).memory
  refine returnsInHanded_of_row (C := Tryz.checked) (s := OpenSpec.ofChange Rows.compactsSpec) zOwn started (by kernel_rfl) Tryz.func3
    (witness_row_atRef (enc := enc) (C := Tryz.checked) false w #[.string ⟨#[]⟩] f1 f2 f3 f4
      (OpenSpec.preRow_of_cond 8 hx (by kernel_rfl) (fun k hk => by cases hk) (by kernel_rfl) f5)) ?_
  intro W base args ds gs before hval hW _ _ _ hL hsh _
  exact compacts_contract H enc W base args ds gs before hval hW hL hsh

theorem compacts_said : Rows.CompactsSaid :=
  OpenClaim.holds_of_cond 3 Tryz.f3 rfl rfl rfl rfl rfl rfl rfl ⟨rfl, rfl, rfl, rfl, rfl⟩ rfl rfl rfl rfl rfl (by kernel_rfl) Tryz.func3 (by kernel_rfl)
    (of_decide_eq_true (by kernel_rfl)) (by unfold Func.isWrapper; first | (rw [if_pos (by decide +kernel)]; kernel_rfl) | (rw [if_neg (by decide +kernel)]; exact ⟨rfl, rfl⟩))
    (fun os started H enc _ F => by rw [OpenClaim.pre_eq_preRow]; exact compacts_lifted os started H enc F)

theorem compacts_plain (f : FuncId) (fn : Func) (hf : Tryz.pinned.checked.prog.funcNamed "pluck/plucklaw.Compacts" = some f) (hfn : Tryz.pinned.checked.prog.funcs[f]? = some fn) :
    true = Tryz.pinned.checked.prog.looks [] ∧ ∀ (j : Nat) t, fn.params[j]? = some t → Tryz.pinned.checked.prog.wantsStandIn t = false := by
  obtain rfl : f = 3 := Option.some.inj ((show Tryz.prog.funcNamed "pluck/plucklaw.Compacts" = some 3 by kernel_rfl).symm.trans hf) |>.symm
  obtain rfl : fn = Tryz.f3 := (Option.some.inj (Tryz.func3.symm.trans hfn)).symm
  refine ⟨by kernel_rfl, fun j t ht => ?_⟩
  rw [Tryz.params3] at ht
  obtain rfl : t = 9 := by simpa using Array.mem_of_getElem? ht
  exact (show Tryz.prog.wantsStandIn 9 = false by kernel_rfl)

theorem compacts_card : Rows.CompactsCardSaid :=
  Claim7.holds_tied_plain_at .later [] _ _ _ _ compacts_said (fun _ h => by cases h) (by kernel_rfl) (fun _ h => by cases h) compacts_row_tie rfl ⟨rfl, rfl⟩ (by kernel_rfl) rfl compacts_plain (by kernel_rfl)
#print axioms compacts_card
end Go.Proofs.YtjaoocincdoaaaaGreatDoor
