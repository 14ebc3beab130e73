/- errors.As, and the program's 'place'. The program's 'place' and 'errno'. The program's Compact. The law 'Compacts', walked. What the listed package-level variables give a walk. From the listed variables to what the walks ask of the world. A world that holds the listed variables. -/
import Derived.Test.YtjaoocincdoaaaaGreatDoorA16
import Derived.Test.YtjaoocincdoaaaaGreatDoorRows
import Derived.Lib.LaidU8T
import Derived.PinnedBridge
import Derived.LaidLaws
import Derived.LaidHandle
import Derived.Lib.LaidIn
namespace Go.Proofs.YtjaoocincdoaaaaGreatDoor
open Go.RowKit Go.Extern.Stop Go.Stop Go.Extern

set_option linter.unusedVariables false

theorem cell_lt0 {w : World} {g o : Nat} {v : Value} (h : w.cell? ⟨g, o, none⟩ = some v) : g < w.heap.size := by
  rcases Nat.lt_or_ge g w.heap.size with hl | hg
  · exact hl
  · simp [World.cell?, Array.getElem?_eq_none hg] at h

/-- The library's own handle of 'error'. -/
def ErrT (w : World) : Prop := w.cell? ⟨7, 0, none⟩ = some (.iface 95 (.agg #[.pointer (some ⟨16, 29, none⟩)]))

set_option maxRecDepth 100000 in
set_option maxHeartbeats 4000000 in
theorem as_hit (k : Nat) (J : Addr) (t : Nat) (w : World) (hg : ErrT w) (ht : w.heap[t]? = some (.cells #[.int .i64 0, .nilIface] 40 (0, 0))) :
    Calls Tryz.prog 14 #[errV J k, .iface 42 (.pointer (some ⟨t, 0, none⟩))] w fun ev w' => ev = .returned (.bool true) ∧ w'.cell? ⟨t, 0, none⟩ = some (.int .i64 k) ∧ Chg (fun i => i = t) w w' := by
  rw [errV]
  have h6 := @run_callFunc_extern Tryz.prog 25 _ (fun args => ReflectliteValue.unpack (args.getD 0 (.tuple #[]))) Tryz.func25 (by kernel_rfl) (by kernel_rfl) (by kernel_rfl) (by kernel_rfl)
  have h7 := @run_callFunc_extern Tryz.prog 26 _ (ReflectliteValue.methodAny (ReflectliteValue.valueError "reflectlite.Value.Type" 0) (fun t _ _ _ => ReflectliteType.toType t)) Tryz.func26 (by kernel_rfl) (by kernel_rfl) (by kernel_rfl) (by kernel_rfl)
  have h8 := @run_callFunc_extern Tryz.prog 27 _ (ReflectliteValue.method (ReflectliteValue.valueError "reflectlite.Value.IsNil" 0) ReflectliteValue.isNil) Tryz.func27 (by kernel_rfl) (by kernel_rfl) (by kernel_rfl) (by kernel_rfl)
  have h27 := @run_callFunc_extern Tryz.prog 180 _ (ReflectliteType.abiMethod fun t => do pure (.int .u8 (← Rtype.kind t))) Tryz.func180 (by kernel_rfl) (by kernel_rfl) (by kernel_rfl) (by kernel_rfl)
  have h37 := @run_callFunc_extern Tryz.prog 197 _ (ReflectliteType.method ReflectliteType.elem) Tryz.func197 (by kernel_rfl) (by kernel_rfl) (by kernel_rfl) (by kernel_rfl)
  have h38 := @run_callFunc_extern Tryz.prog 198 _ (ReflectliteType.relation "Implements" ReflectliteType.implements_) Tryz.func198 (by kernel_rfl) (by kernel_rfl) (by kernel_rfl) (by kernel_rfl)
  have h10 := @run_callFunc_extern Tryz.prog 29 _ ReflectliteType.typeOf Tryz.func29 (by kernel_rfl) (by kernel_rfl) (by kernel_rfl) (by kernel_rfl)
  have h35 := @run_callFunc_extern Tryz.prog 195 _ (ReflectliteType.relation "AssignableTo" ReflectliteType.assignableTo) Tryz.func195 (by kernel_rfl) (by kernel_rfl) (by kernel_rfl) (by kernel_rfl)
  have h11 := @run_callFunc_extern Tryz.prog 45 _ (ReflectliteValue.method (ReflectliteValue.valueError "reflectlite.Value.Elem" 0) ReflectliteValue.elem) Tryz.func45 (by kernel_rfl) (by kernel_rfl) (by kernel_rfl) (by kernel_rfl)
  have h12 := @run_callFunc_extern Tryz.prog 46 _ ReflectliteValue.set Tryz.func46 (by kernel_rfl) (by kernel_rfl) (by kernel_rfl) (by kernel_rfl)
  have tO := xTypeOfA
  have mA := yMethodAssignableTo
  have a25 := yAssignableA
  have v25 := yValueOfA
  have f6 := yValueOfP
  have f7 := yTypeP
  have mK := yMethodKind
  have mE := yMethodElem
  have mI := yMethodImplements
  have k27 := yKindP
  have k25 := yKindA
  have e27 := yElemP
  have i25 := yImplementsA
  have htl : t < w.heap.size := lt_of_heap ht
  have hgl : 7 < w.heap.size := cell_lt0 hg
  obtain ⟨W1, hW1⟩ : ∃ W1, W1 = w.alloc (.cells #[.pointer (some ⟨t, 0, none⟩)] 42) := ⟨_, rfl⟩
  obtain ⟨W2, hW2⟩ : ∃ W2, W2 = W1.alloc (.cells #[.pointer (some ⟨16, 42, none⟩), .pointer (some ⟨w.heap.size, 0, none⟩), .int .u64 150] 63) := ⟨_, rfl⟩
  obtain ⟨W3, hW3⟩ : ∃ W3, W3 = W2.alloc (.cells #[.pointer (some ⟨16, 42, none⟩), .pointer (some ⟨w.heap.size, 0, none⟩), .int .u64 150] 63) := ⟨_, rfl⟩
  obtain ⟨W4, hW4⟩ : ∃ W4, W4 = W3.alloc (.cells #[.int .i64 k, .iface 209 (.pointer (some J))] 40) := ⟨_, rfl⟩
  have b1 : W1.heap[w.heap.size]? = some (.cells #[.pointer (some ⟨t, 0, none⟩)] 42 (0, 0)) := by rw [hW1]; exact heap_new rfl
  have b2 : W2.heap[w.heap.size]? = some (.cells #[.pointer (some ⟨t, 0, none⟩)] 42 (0, 0)) := by rw [hW2]; exact heap_old b1
  have b3 : W3.heap[w.heap.size]? = some (.cells #[.pointer (some ⟨t, 0, none⟩)] 42 (0, 0)) := by rw [hW3]; exact heap_old b2
  have t1 : W1.heap[t]? = some (.cells #[.int .i64 0, .nilIface] 40 (0, 0)) := by rw [hW1]; exact heap_old ht
  have t2 : W2.heap[t]? = some (.cells #[.int .i64 0, .nilIface] 40 (0, 0)) := by rw [hW2]; exact heap_old t1
  have t3 : W3.heap[t]? = some (.cells #[.int .i64 0, .nilIface] 40 (0, 0)) := by rw [hW3]; exact heap_old t2
  have t4 : W4.heap[t]? = some (.cells #[.int .i64 0, .nilIface] 40 (0, 0)) := by rw [hW4]; exact heap_old t3
  have s3 : W3.heap.size = w.heap.size + 1 + 1 + 1 := by rw [hW3, hW2, hW1]; simp
  have v4 : W4.heap[w.heap.size + 1 + 1 + 1]? = some (.cells #[.int .i64 k, .iface 209 (.pointer (some J))] 40 (0, 0)) := by rw [hW4]; exact heap_new s3
  have n8 := yIsNilP ⟨w.heap.size, 0, none⟩ ⟨t, 0, none⟩ W2 (by simp [World.cell?, b2])
  have el := yElemVP ⟨w.heap.size, 0, none⟩ ⟨t, 0, none⟩ W3 (by simp [World.cell?, b3])
  have st := ySetA t (w.heap.size + 1 + 1 + 1) (.int .i64 k) (.iface 209 (.pointer (some J))) (.int .i64 0) .nilIface W4 rfl rfl v4 t4
  have hg2 : W2.cell? ⟨7, 0, none⟩ = some (.iface 95 (.agg #[.pointer (some ⟨16, 29, none⟩)])) := by
    rw [hW2, World.cell?_alloc_lt _ _ ⟨7, 0, none⟩ (by rw [hW1]; simp; omega), hW1, World.cell?_alloc_lt _ _ ⟨7, 0, none⟩ hgl]; exact hg
  have hC : Chg (fun i => i = t) w ((W4.setCell ⟨t, 0, none⟩ (.int .i64 k)).setCell ⟨t, 1, none⟩ (.iface 209 (.pointer (some J)))) := by
    rw [hW4, hW3, hW2, hW1]
    exact ((((((Chg.refl (fun i => i = t) w).alloc _).alloc _).alloc _).alloc _).setCell (b := t) rfl _ _).setCell (b := t) rfl _ _
  have hres : ((W4.setCell ⟨t, 0, none⟩ (.int .i64 k)).setCell ⟨t, 1, none⟩ (.iface 209 (.pointer (some J)))).cell? ⟨t, 0, none⟩ = some (.int .i64 k) := by
    have := heap_setCell_at (o := 1) (heap_setCell_at (o := 0) t4 (.int .i64 k)) (.iface 209 (.pointer (some J)))
    simp [World.cell?, this]
  have HC : Hid _ := hC
  have HR : Hid _ := hres
  clear hC hres b1 b2 b3 t1 t2 t3 t4 v4 ht hg s3
  subst hW4
  subst hW3
  subst hW2
  subst hW1
  go_enter Tryz.func14, Tryz.ntmps14
  go_wp2
  refine wp_loop_rounds 1 ?_
  rw [rounds_succ]
  go_wp2
  go_ret
  exact ⟨rfl, HR.out, HC.out⟩

set_option maxRecDepth 100000 in
set_option maxHeartbeats 4000000 in
theorem as_miss (J : Addr) (t : Nat) (w : World) (hg : ErrT w) :
    Calls Tryz.prog 14 #[.iface 209 (.pointer (some J)), .iface 42 (.pointer (some ⟨t, 0, none⟩))] w fun ev w' => ev = .returned (.bool false) ∧ Below w.heap.size w w' := by
  have h6 := @run_callFunc_extern Tryz.prog 25 _ (fun args => ReflectliteValue.unpack (args.getD 0 (.tuple #[]))) Tryz.func25 (by kernel_rfl) (by kernel_rfl) (by kernel_rfl) (by kernel_rfl)
  have h7 := @run_callFunc_extern Tryz.prog 26 _ (ReflectliteValue.methodAny (ReflectliteValue.valueError "reflectlite.Value.Type" 0) (fun t _ _ _ => ReflectliteType.toType t)) Tryz.func26 (by kernel_rfl) (by kernel_rfl) (by kernel_rfl) (by kernel_rfl)
  have h8 := @run_callFunc_extern Tryz.prog 27 _ (ReflectliteValue.method (ReflectliteValue.valueError "reflectlite.Value.IsNil" 0) ReflectliteValue.isNil) Tryz.func27 (by kernel_rfl) (by kernel_rfl) (by kernel_rfl) (by kernel_rfl)
  have h27 := @run_callFunc_extern Tryz.prog 180 _ (ReflectliteType.abiMethod fun t => do pure (.int .u8 (← Rtype.kind t))) Tryz.func180 (by kernel_rfl) (by kernel_rfl) (by kernel_rfl) (by kernel_rfl)
  have h37 := @run_callFunc_extern Tryz.prog 197 _ (ReflectliteType.method ReflectliteType.elem) Tryz.func197 (by kernel_rfl) (by kernel_rfl) (by kernel_rfl) (by kernel_rfl)
  have h38 := @run_callFunc_extern Tryz.prog 198 _ (ReflectliteType.relation "Implements" ReflectliteType.implements_) Tryz.func198 (by kernel_rfl) (by kernel_rfl) (by kernel_rfl) (by kernel_rfl)
  have h10 := @run_callFunc_extern Tryz.prog 29 _ ReflectliteType.typeOf Tryz.func29 (by kernel_rfl) (by kernel_rfl) (by kernel_rfl) (by kernel_rfl)
  have h35 := @run_callFunc_extern Tryz.prog 195 _ (ReflectliteType.relation "AssignableTo" ReflectliteType.assignableTo) Tryz.func195 (by kernel_rfl) (by kernel_rfl) (by kernel_rfl) (by kernel_rfl)
  have tO := xTypeOfE
  have mA := yMethodAssignableTo
  have a25 := yAssignableE
  have f6 := yValueOfP
  have f7 := yTypeP
  have mK := yMethodKind
  have mE := yMethodElem
  have mI := yMethodImplements
  have k27 := yKindP
  have k25 := yKindA
  have e27 := yElemP
  have i25 := yImplementsA
  have nA := xNoAsE
  have uE := xNoUnwrapE
  have vE := xNoUnwrapsE
  have hgl : 7 < w.heap.size := cell_lt0 hg
  obtain ⟨W1, hW1⟩ : ∃ W1, W1 = w.alloc (.cells #[.pointer (some ⟨t, 0, none⟩)] 42) := ⟨_, rfl⟩
  obtain ⟨W2, hW2⟩ : ∃ W2, W2 = W1.alloc (.cells #[.pointer (some ⟨16, 42, none⟩), .pointer (some ⟨w.heap.size, 0, none⟩), .int .u64 150] 63) := ⟨_, rfl⟩
  have b1 : W1.heap[w.heap.size]? = some (.cells #[.pointer (some ⟨t, 0, none⟩)] 42 (0, 0)) := by rw [hW1]; exact heap_new rfl
  have b2 : W2.heap[w.heap.size]? = some (.cells #[.pointer (some ⟨t, 0, none⟩)] 42 (0, 0)) := by rw [hW2]; exact heap_old b1
  have n8 := yIsNilP ⟨w.heap.size, 0, none⟩ ⟨t, 0, none⟩ W2 (by simp [World.cell?, b2])
  have hg2 : W2.cell? ⟨7, 0, none⟩ = some (.iface 95 (.agg #[.pointer (some ⟨16, 29, none⟩)])) := by
    rw [hW2, World.cell?_alloc_lt _ _ ⟨7, 0, none⟩ (by rw [hW1]; simp; omega), hW1, World.cell?_alloc_lt _ _ ⟨7, 0, none⟩ hgl]; exact hg
  clear b1 b2 hg
  subst hW2
  subst hW1
  go_enter Tryz.func14, Tryz.ntmps14
  go_wp2
  refine wp_loop_rounds 1 ?_
  rw [rounds_succ]
  go_wp2
  go_ret
  exact ⟨rfl, (((Below.refl _ w).alloc (Nat.le_refl _) _).alloc (by simp) _).alloc (by simp; omega) _⟩

end Go.Proofs.YtjaoocincdoaaaaGreatDoor

namespace Go.Proofs.YtjaoocincdoaaaaGreatDoor
open Go.RowKit

set_option linter.unusedVariables false

theorem ErrT.below {w w' : World} (h : ErrT w) (hb : Below w.heap.size w w') : ErrT w' := by
  unfold ErrT at *
  rw [← h]
  simp only [World.cell?, hb.block _ (cell_lt0 h)]

set_option maxHeartbeats 1000000 in
theorem place_at (k : Nat) (J : Addr) (w : World) (hg : ErrT w) :
    Calls Tryz.prog 7 #[errV J k] w fun e w' => e = .returned (.int .i64 k) ∧ Below w.heap.size w w' := by
  have hB : Below w.heap.size w (w.alloc (.cells #[.int .i64 0, .nilIface] 40)) := (Below.refl _ w).alloc (Nat.le_refl _) _
  have HQ : Hid (Calls Tryz.prog 14 #[errV J k, .iface 42 (.pointer (some ⟨w.heap.size, 0, none⟩))] (w.alloc (.cells #[.int .i64 0, .nilIface] 40)) fun ev w' => ev = .returned (.bool true) ∧ w'.cell? ⟨w.heap.size, 0, none⟩ = some (.int .i64 k) ∧ Chg (fun i => i = w.heap.size) (w.alloc (.cells #[.int .i64 0, .nilIface] 40)) w') :=
    as_hit k J w.heap.size _ (hg.below hB) (heap_new rfl)
  have HB : Hid (Below w.heap.size w (w.alloc (.cells #[.int .i64 0, .nilIface] 40))) := hB
  obtain ⟨E, hE⟩ : ∃ E, E = errV J k := ⟨_, rfl⟩
  rw [← hE] at HQ ⊢
  clear hg hE hB
  go_enter Tryz.func7, Tryz.ntmps7
  go_wp2_with fail
  refine Calls.mono HQ.out ?_
  rintro e w1 ⟨rfl, hc, hch⟩
  go_wp2_with fail
  go_ret
  refine ⟨rfl, HB.out.trans ⟨hch.os, hch.tape, hch.output, hch.size, fun i hi => hch.block i (by simp; omega) (by omega)⟩⟩

set_option maxHeartbeats 1000000 in
theorem place_other (J : Addr) (w : World) (hg : ErrT w) :
    Calls Tryz.prog 7 #[.iface 209 (.pointer (some J))] w fun e w' => e = .returned (.int .i64 0) ∧ Below w.heap.size w w' := by
  have hB : Below w.heap.size w (w.alloc (.cells #[.int .i64 0, .nilIface] 40)) := (Below.refl _ w).alloc (Nat.le_refl _) _
  have HQ : Hid (Calls Tryz.prog 14 #[.iface 209 (.pointer (some J)), .iface 42 (.pointer (some ⟨w.heap.size, 0, none⟩))] (w.alloc (.cells #[.int .i64 0, .nilIface] 40)) fun ev w' => ev = .returned (.bool false) ∧ Below (w.alloc (.cells #[.int .i64 0, .nilIface] 40)).heap.size (w.alloc (.cells #[.int .i64 0, .nilIface] 40)) w') :=
    as_miss J w.heap.size _ (hg.below hB)
  have HB : Hid (Below w.heap.size w (w.alloc (.cells #[.int .i64 0, .nilIface] 40))) := hB
  clear hg hB
  go_enter Tryz.func7, Tryz.ntmps7
  go_wp2_with fail
  refine Calls.mono HQ.out ?_
  rintro e w1 ⟨rfl, hb⟩
  go_wp2_with fail
  go_ret
  exact ⟨rfl, HB.out.trans (hb.mono (by simp))⟩

/-- The program's sentinels, where they lie. -/
structure Sents (w : World) (L S N A J La : Addr) : Prop where
  cL : w.cell? ⟨0, 0, none⟩ = some (.iface 209 (.pointer (some L)))
  cS : w.cell? ⟨2, 0, none⟩ = some (.iface 209 (.pointer (some S)))
  cN : w.cell? ⟨3, 0, none⟩ = some (.iface 209 (.pointer (some N)))
  cA : w.cell? ⟨4, 0, none⟩ = some (.iface 209 (.pointer (some A)))
  cJ : w.cell? ⟨5, 0, none⟩ = some (.iface 209 (.pointer (some J)))
  cLa : w.cell? ⟨1, 0, none⟩ = some (.iface 209 (.pointer (some La)))
  bL : ∃ c t, w.heap[L.block]? = some (.cells c t (0, 0))
  bS : ∃ c t, w.heap[S.block]? = some (.cells c t (0, 0))
  bN : ∃ c t, w.heap[N.block]? = some (.cells c t (0, 0))
  bA : ∃ c t, w.heap[A.block]? = some (.cells c t (0, 0))
  bJ : ∃ c t, w.heap[J.block]? = some (.cells c t (0, 0))
  bLa : ∃ c t, w.heap[La.block]? = some (.cells c t (0, 0))
  ne : L ≠ S ∧ L ≠ N ∧ L ≠ A ∧ L ≠ J ∧ L ≠ La ∧ S ≠ N ∧ S ≠ A ∧ S ≠ J ∧ S ≠ La ∧ N ≠ A ∧ N ≠ J ∧ N ≠ La ∧ A ≠ J ∧ A ≠ La ∧ J ≠ La

theorem cell_below {w w' : World} {g : Nat} {v : Value} (h : w.cell? ⟨g, 0, none⟩ = some v) (hb : Below w.heap.size w w') : w'.cell? ⟨g, 0, none⟩ = some v := by
  rw [← h]
  simp only [World.cell?, hb.block _ (cell_lt0 h)]
theorem blk_below {w w' : World} {g : Nat} (h : ∃ c t, w.heap[g]? = some (.cells c t (0, 0))) (hb : Below w.heap.size w w') : ∃ c t, w'.heap[g]? = some (.cells c t (0, 0)) := by
  obtain ⟨c, t, h⟩ := h
  exact ⟨c, t, (hb.block g (lt_of_heap h)).trans h⟩
theorem Sents.below {w w' : World} {L S N A J La : Addr} (h : Sents w L S N A J La) (hb : Below w.heap.size w w') : Sents w' L S N A J La :=
  ⟨cell_below h.cL hb, cell_below h.cS hb, cell_below h.cN hb, cell_below h.cA hb, cell_below h.cJ hb, cell_below h.cLa hb, blk_below h.bL hb, blk_below h.bS hb, blk_below h.bN hb, blk_below h.bA hb, blk_below h.bJ hb, blk_below h.bLa hb, h.ne⟩

theorem is_at_no (k : Nat) (a b : Addr) (w : World) (hne : a ≠ b) (ha : ∃ c t, w.heap[a.block]? = some (.cells c t (0, 0))) (hb : ∃ c t, w.heap[b.block]? = some (.cells c t (0, 0))) :
    Calls Tryz.prog 15 #[errV a k, .iface 209 (.pointer (some b))] w fun e w' => e = .returned (.bool false) ∧ Below w.heap.size w w' := by
  obtain ⟨ca, ta, ha⟩ := ha
  obtain ⟨cb, tb, hb⟩ := hb
  refine (is_at_other k a b ca cb ta tb w hne ha hb).mono ?_
  rintro e w' ⟨rfl, rfl⟩
  exact ⟨rfl, (Below.refl _ w).alloc (Nat.le_refl _) _⟩
theorem is_at_yes (k : Nat) (b : Addr) (w : World) :
    Calls Tryz.prog 15 #[errV b k, .iface 209 (.pointer (some b))] w fun e w' => e = .returned (.bool true) ∧ Below w.heap.size w w' := by
  refine (is_at_same k b w).mono ?_
  rintro e w' ⟨rfl, rfl⟩
  exact ⟨rfl, (Below.refl _ w).alloc (Nat.le_refl _) _⟩
theorem is_no (a b : Addr) (w : World) (hne : a ≠ b) (ha : ∃ c t, w.heap[a.block]? = some (.cells c t (0, 0))) (hb : ∃ c t, w.heap[b.block]? = some (.cells c t (0, 0))) :
    Calls Tryz.prog 15 #[.iface 209 (.pointer (some a)), .iface 209 (.pointer (some b))] w fun e w' => e = .returned (.bool false) ∧ w' = w := by
  obtain ⟨ca, ta, ha⟩ := ha
  obtain ⟨cb, tb, hb⟩ := hb
  exact is_other a b ca cb ta tb w hne ha hb

set_option maxHeartbeats 1000000 in
theorem errno_at (k : Nat) (w : World) {L S N A J La : Addr} (h : Sents w L S N A J La) :
    Calls Tryz.prog 8 #[errV J k] w fun e w' => e = .returned (.int .i64 5) ∧ Below w.heap.size w w' := by
  have HS : Hid (Sents w L S N A J La) := h
  have c0 := h.cL
  have HQ1 : Hid (∀ b W, J ≠ b → (∃ c t, W.heap[J.block]? = some (.cells c t (0, 0))) → (∃ c t, W.heap[b.block]? = some (.cells c t (0, 0))) → Calls Tryz.prog 15 #[errV J k, .iface 209 (.pointer (some b))] W fun e w' => e = .returned (.bool false) ∧ Below W.heap.size W w') := fun b W h1 h2 h3 => is_at_no k J b W h1 h2 h3
  have HQ2 : Hid (∀ W, Calls Tryz.prog 15 #[errV J k, .iface 209 (.pointer (some J))] W fun e w' => e = .returned (.bool true) ∧ Below W.heap.size W w') := fun W => is_at_yes k J W
  have HNE : Hid (J ≠ L ∧ J ≠ S ∧ J ≠ N ∧ J ≠ A) := by
    obtain ⟨h1, h2, h3, h4, h5, h6, h7, h8, h9, h10, h11, h12, h13, h14, h15⟩ := h.ne
    exact ⟨fun e => h4 e.symm, fun e => h8 e.symm, fun e => h11 e.symm, fun e => h13 e.symm⟩
  obtain ⟨E, hE⟩ : ∃ E, E = errV J k := ⟨_, rfl⟩
  rw [← hE] at HQ1 HQ2 ⊢
  clear h hE
  go_enter Tryz.func8, Tryz.ntmps8
  go_wp2_with fail
  refine (HQ1.out L w HNE.out.1 HS.out.bJ HS.out.bL).mono ?_
  rintro e w1 ⟨rfl, hb1⟩
  have HS1 : Hid (Sents w1 L S N A J La) := HS.out.below hb1
  have c1 := HS1.out.cS
  clear c0
  go_wp2_with fail
  refine (HQ1.out S w1 HNE.out.2.1 HS1.out.bJ HS1.out.bS).mono ?_
  rintro e w2 ⟨rfl, hb2⟩
  have HS2 : Hid (Sents w2 L S N A J La) := HS1.out.below hb2
  have c2 := HS2.out.cN
  clear c1
  go_wp2_with fail
  refine (HQ1.out N w2 HNE.out.2.2.1 HS2.out.bJ HS2.out.bN).mono ?_
  rintro e w3 ⟨rfl, hb3⟩
  have HS3 : Hid (Sents w3 L S N A J La) := HS2.out.below hb3
  have c3 := HS3.out.cA
  clear c2
  go_wp2_with fail
  refine (HQ1.out A w3 HNE.out.2.2.2 HS3.out.bJ HS3.out.bA).mono ?_
  rintro e w4 ⟨rfl, hb4⟩
  have HS4 : Hid (Sents w4 L S N A J La) := HS3.out.below hb4
  have c4 := HS4.out.cJ
  clear c3
  go_wp2_with fail
  refine (HQ2.out w4).mono ?_
  rintro e w5 ⟨rfl, hb5⟩
  clear c4
  go_wp2_with fail
  go_ret
  have e1 := hb1.size
  have e2 := hb2.size
  have e3 := hb3.size
  have e4 := hb4.size
  exact ⟨rfl, (((hb1.trans (hb2.mono e1)).trans (hb3.mono (by omega))).trans (hb4.mono (by omega))).trans (hb5.mono (by omega))⟩

set_option maxHeartbeats 1000000 in
theorem errno_long (w : World) {L S N A J La : Addr} (h : Sents w L S N A J La) :
    Calls Tryz.prog 8 #[.iface 209 (.pointer (some L))] w fun e w' => e = .returned (.int .i64 1) ∧ w' = w := by
  have c0 := h.cL
  clear h
  go_enter Tryz.func8, Tryz.ntmps8
  go_wp2_with fail
  refine (is_same L w).mono ?_
  rintro e w1 ⟨rfl, rfl⟩
  go_wp2_with fail
  go_ret
  exact ⟨rfl, rfl⟩

set_option maxHeartbeats 1000000 in
theorem errno_large (w : World) {L S N A J La : Addr} (h : Sents w L S N A J La) :
    Calls Tryz.prog 8 #[.iface 209 (.pointer (some La))] w fun e w' => e = .returned (.int .i64 6) ∧ w' = w := by
  have HS : Hid (Sents w L S N A J La) := h
  have c0 := h.cL
  have c1 := h.cS
  have c2 := h.cN
  have c3 := h.cA
  have c4 := h.cJ
  have c5 := h.cLa
  have HNE : Hid (La ≠ L ∧ La ≠ S ∧ La ≠ N ∧ La ≠ A ∧ La ≠ J) := by
    obtain ⟨h1, h2, h3, h4, h5, h6, h7, h8, h9, h10, h11, h12, h13, h14, h15⟩ := h.ne
    exact ⟨fun e => h5 e.symm, fun e => h9 e.symm, fun e => h12 e.symm, fun e => h14 e.symm, fun e => h15 e.symm⟩
  clear h
  go_enter Tryz.func8, Tryz.ntmps8
  go_wp2_with fail
  refine (is_no La L w HNE.out.1 HS.out.bLa HS.out.bL).mono ?_
  rintro e w1 ⟨rfl, rfl⟩
  go_wp2_with fail
  refine (is_no La S w1 HNE.out.2.1 HS.out.bLa HS.out.bS).mono ?_
  rintro e w2 ⟨rfl, rfl⟩
  go_wp2_with fail
  refine (is_no La N w2 HNE.out.2.2.1 HS.out.bLa HS.out.bN).mono ?_
  rintro e w3 ⟨rfl, rfl⟩
  go_wp2_with fail
  refine (is_no La A w3 HNE.out.2.2.2.1 HS.out.bLa HS.out.bA).mono ?_
  rintro e w4 ⟨rfl, rfl⟩
  go_wp2_with fail
  refine (is_no La J w4 HNE.out.2.2.2.2 HS.out.bLa HS.out.bJ).mono ?_
  rintro e w5 ⟨rfl, rfl⟩
  go_wp2_with fail
  refine (is_same La w5).mono ?_
  rintro e w6 ⟨rfl, rfl⟩
  go_wp2_with fail
  go_ret
  exact ⟨rfl, rfl⟩

end Go.Proofs.YtjaoocincdoaaaaGreatDoor

namespace Go.Proofs.YtjaoocincdoaaaaGreatDoor
open Go.RowKit J

set_option linter.unusedVariables false

/-- What lies ahead of the call: the package-level variables. -/
structure Std (w : World) (L S N A J La : Addr) : Prop where
  size : 16 ≤ w.heap.size
  sents : Sents w L S N A J La
  json : w.heap[5]? = some (.cells #[.iface 209 (.pointer (some J))] 29 (0, 0))
  env : Env w
  errT : ErrT w
  pow : Pow10 w.heap.size w

theorem Std.below {w w' : World} {L S N A J La : Addr} (h : Std w L S N A J La) (hb : Below w.heap.size w w') : Std w' L S N A J La :=
  ⟨Nat.le_trans h.size hb.size, h.sents.below hb, (hb.block _ (lt_of_heap h.json)).trans h.json, h.env.below hb, h.errT.below hb, fun w2 h2 => h.pow w2 (hb.trans (h2.mono hb.size))⟩

/-- All its blocks are there. -/
theorem RefP.keep2 : ∀ (n : Nat) {w : World} {A : Nat → Prop} {v : VT n} {x : Value}, RefP n w A v x → RefP n w (fun m => m < w.heap.size) v x
  | 0, w, A, v, x, h => h
  | n + 1, w, A, v, x, h => by
    match v, h with
    | Sum.inl l, h => exact h
    | Sum.inr (Sum.inl vs), h =>
      obtain ⟨sl, xs, hx, hr, hl, hall⟩ := h
      exact ⟨sl, xs, hx, hr, fun g hg => hr.lt hg, hall.mono (fun a b hab => RefP.keep2 n hab)⟩
    | Sum.inr (Sum.inr (ks, vs)), h =>
      obtain ⟨sl, xs, hx, hr, hl, hall⟩ := h
      exact ⟨sl, xs, hx, hr, fun g hg => hr.lt hg, hall.mono (fun a b hab => RefP.keep2 n hab)⟩

/-- The document's Compact of what was read. -/
def specOf (s : ByteArray) (R : Except Nat (VT 12 × Nat × Bool)) : List UInt8 × Nat × Int :=
  match R with
  | .error q => ([], q, 5)
  | .ok r => if skip s r.2.1 < s.size then ([], skip s r.2.1, 5) else if r.2.2 then ([], 0, 6) else (vtext 12 r.1, 0, 0)
theorem specOf_rel {s : ByteArray} {r r' : Except Nat (VT 12 × Nat × Bool)} (h : QRel s r r') : specOf s r = specOf s r' := by
  rcases h with h | ⟨x, h1, h2, h3⟩
  · rw [h]
  · rw [h1, h3]
    obtain ⟨n1, n2, n3, n4, n5⟩ := isNumB_ne h2
    simp only [specOf]
    rw [skip_no n4, if_pos (lt_of_gb (by omega))]
theorem specC_of {s : ByteArray} (h : ¬ 1000 < s.size) : specC s = specOf s (pvalQ 12 s 0 false) := by
  rw [← specOf_rel (pval_rel 12 s 0 false), specC, if_neg h]; rfl

/-- What 'Text' hands back. -/
def TextIs (s : ByteArray) (L J La : Addr) (w' : World) (M : Nat) (x er : Value) : Prop :=
  ((specC s).2.2 = 1 ∧ (specC s).1 = [] ∧ (specC s).2.1 = 0 ∧ er = .iface 209 (.pointer (some L))) ∨
  ((specC s).2.2 = 5 ∧ (specC s).1 = [] ∧ er = errV J (specC s).2.1) ∨
  ((specC s).2.2 = 6 ∧ (specC s).1 = [] ∧ (specC s).2.1 = 0 ∧ er = .iface 209 (.pointer (some La))) ∨
  ((specC s).2.2 = 0 ∧ (specC s).2.1 = 0 ∧ er = .nilIface ∧ ∃ v, (specC s).1 = vtext 12 v ∧ VOk 12 v ∧ (vtext 12 v).length ≤ 600000 ∧ RefP 12 w' (fun m => M ≤ m) v x)

set_option maxRecDepth 100000 in
set_option maxHeartbeats 4000000 in
theorem rtext_any (s : ByteArray) (w : World) (hmax : s.size ≤ maxLen) {L S N A J La : Addr} (h : Std w L S N A J La) :
    Calls Tryz.prog 6 #[.string s] w fun e w' => ∃ x er, e = .returned (.tuple #[x, er]) ∧ Below w.heap.size w w' ∧ Hid (TextIs s L J La w' w.heap.size x er) := by
  unfold maxLen at hmax
  have HH : Hid (Std w L S N A J La) := h
  by_cases hbig : 1000 < s.size
  · have HT : Hid (specC s = ([], 0, 1)) := by show _ = _; rw [specC, if_pos hbig]
    have c0 := h.sents.cL
    clear h
    go_enter Tryz.func6, Tryz.ntmps6
    go_wp2_with fail
    go_quiet (fail)
    go_wp2
    go_ret2
    refine ⟨_, _, rfl, ⟨rfl, rfl, rfl, Nat.le_refl _, fun _ _ => rfl⟩, ?_⟩
    show TextIs _ _ _ _ _ _ _ _
    left
    rw [HT.out]; exact ⟨rfl, rfl, rfl, rfl⟩
  · have hs : s.size ≤ 1000 := by omega
    obtain ⟨R, hR⟩ : ∃ R, R = pvalQ 12 s 0 false := ⟨_, rfl⟩
    have HSP : Hid (specC s = specOf s R) := by show _ = _; rw [hR]; exact specC_of hbig
    have HR : Hid (pvalQ 12 s (skip s 0) false = R) := by show _ = _; rw [pvalQ_skip]; exact hR.symm
    have hpW : PS (w.alloc (pblk s 0 0 false)) w.heap.size s 0 0 false J :=
      ⟨heap_new rfl, heap_old h.json, by have := lt_of_heap h.json; omega⟩
    have hBW : Below w.heap.size w (w.alloc (pblk s 0 0 false)) := (Below.refl _ w).alloc (Nat.le_refl _) _
    have HW : Hid (Std (w.alloc (pblk s 0 0 false)) L S N A J La) := h.below hBW
    have HPW : Hid (PS (w.alloc (pblk s 0 0 false)) w.heap.size s 0 0 false J) := hpW
    have HBW : Hid (Below w.heap.size w (w.alloc (pblk s 0 0 false))) := hBW
    have hGw : 16 ≤ w.heap.size := h.size
    have hsk0 := skip_size s 0 (Nat.zero_le _)
    obtain ⟨k0, hk0⟩ : ∃ k0, k0 = skip s 0 := ⟨_, rfl⟩
    have HK0 : Hid (skip s k0 = k0) := by show _ = _; rw [hk0, skip_skip]
    rw [← hk0] at HR hsk0
    have HKE : Hid (skip s 0 = k0) := hk0.symm
    clear h hpW hBW hR hk0
    go_enter Tryz.func6, Tryz.ntmps6
    go_wp2_with fail
    refine (pblanks_any w.heap.size s 0 0 false _ HPW.out (Nat.zero_le _) hs).mono ?_
    rintro e w1 ⟨rfl, hb1, hp1⟩
    rw [HKE.out] at hp1
    have HP1 : Hid (PS w1 w.heap.size s k0 0 false J) := hp1
    have HE1 : Hid (Env w1) := HW.out.env.but hb1 hGw
    clear hp1
    go_wp2_with fail
    refine (pval_all 12 w.heap.size s k0 0 false w1 J (by decide) (by decide) HP1.out HE1.out hGw hs hsk0 HK0.out).mono ?_
    rintro e w2 ⟨x, er, k2, lg2, rfl, hx2, hb2, hp2, hr2⟩
    rw [HR.out] at hr2
    have HP2 : Hid (PS w2 w.heap.size s k2 0 lg2 J) := hp2
    have hb12 : But w.heap.size (w.alloc (pblk s 0 0 false)) w2 := hb1.trans hb2
    have HB2 : Hid (Below w.heap.size w w2) := HBW.out.trans (hb12.below (Nat.le_refl _) (by simp))
    have hsz1 : w.heap.size < w1.heap.size := by have := hb1.size; simp at this; omega
    have hr2' := hr2.out
    clear hp2 hr2 hb1 hb2 hb12
    cases R with
    | error q =>
      have hee : er = errV J q := hr2'
      subst hee
      have HT : Hid (specC s = ([], q, 5)) := HSP.out
      clear hr2' HSP
      rw [errV]
      go_wp2_with fail
      go_ret2
      refine ⟨.nilIface, errV J q, rfl, HB2.out, ?_⟩
      show TextIs _ _ _ _ _ _ _ _
      right; left
      rw [HT.out]; exact ⟨rfl, rfl, rfl⟩
    | ok r =>
      obtain ⟨r1, r2, r3, r4⟩ := hr2'
      subst r1
      subst r2
      subst r3
      have hpv : pval 12 s 0 false = .ok r := pval_ofQ (by rw [← pvalQ_skip, HKE.out]; exact HR.out)
      have hok := item_ok s hs 12 0 false r.1 r.2.1 r.2.2 (Nat.zero_le _) hpv
      have hle : r.2.1 ≤ s.size := hok.2.2.2
      have HOK : Hid (VOk 12 r.1 ∧ (vtext 12 r.1).length ≤ 600000) := ⟨hok.1, by have := hok.2.1; omega⟩
      have HREF : Hid (RefP 12 w2 (fun m => w1.heap.size ≤ m) r.1 x) := r4
      have hsk := skip_size s r.2.1 hle
      obtain ⟨k3, hk3⟩ : ∃ k3, k3 = skip s r.2.1 := ⟨_, rfl⟩
      have HK3 : Hid (skip s r.2.1 = k3) := hk3.symm
      rw [← hk3] at hsk
      have HSP2 : Hid (specC s = if k3 < s.size then ([], k3, 5) else if r.2.2 then ([], 0, 6) else (vtext 12 r.1, 0, 0)) := by show _ = _; rw [HSP.out, hk3]; rfl
      clear hpv hok r4 hk3 HSP HR
      go_wp2_with fail
      refine (pblanks_any w.heap.size s _ 0 _ w2 HP2.out hle hs).mono ?_
      rintro e w3 ⟨rfl, hb3, hp3⟩
      rw [HK3.out] at hp3
      have HP3 : Hid (PS w3 w.heap.size s k3 0 r.2.2 J) := hp3
      have HB3 : Hid (Below w.heap.size w w3) := HB2.out.trans (hb3.below (Nat.le_refl _) HB2.out.size)
      have HREF3 : Hid (RefP 12 w3 (fun m => w.heap.size ≤ m) r.1 x) := RefP.keep 12 HREF.out (fun i hi hlt => ⟨hb3.block i hlt (by intro e; injection e; omega), by omega⟩)
      obtain ⟨y0, y1, y2, y3, yf⟩ := pcells hp3.1
      obtain ⟨lg3, hlg⟩ : ∃ lg3, lg3 = r.2.2 := ⟨_, rfl⟩
      rw [← hlg] at HP3 HSP2 y3
      clear hp3 hb3 y2 yf HREF HP2 HB2 hlg
      by_cases hlt : k3 < s.size
      · have HT : Hid (specC s = ([], k3, 5)) := by show _ = _; rw [HSP2.out, if_pos hlt]
        clear HSP2
        go_wp2_with fail
        refine (wrong_any w.heap.size s k3 0 _ _ HP3.out).mono ?_
        rintro e w4 ⟨rfl, n4, rfl⟩
        rw [errV]
        go_wp2_with fail
        go_ret2
        refine ⟨.nilIface, errV J k3, rfl, ⟨HB3.out.os, HB3.out.tape, HB3.out.output, HB3.out.size, HB3.out.block⟩, ?_⟩
        show TextIs _ _ _ _ _ _ _ _
        right; left
        rw [HT.out]; exact ⟨rfl, rfl, rfl⟩
      · cases lg3
        · have HT : Hid (specC s = (vtext 12 r.1, 0, 0)) := by show _ = _; rw [HSP2.out, if_neg hlt]; rfl
          clear HSP2
          go_wp2_with fail
          go_ret2
          refine ⟨x, .nilIface, rfl, HB3.out, ?_⟩
          show TextIs _ _ _ _ _ _ _ _
          right; right; right
          rw [HT.out]
          exact ⟨rfl, rfl, rfl, r.1, rfl, HOK.out.1, HOK.out.2, HREF3.out⟩
        · have HT : Hid (specC s = ([], 0, 6)) := by show _ = _; rw [HSP2.out, if_neg hlt]; rfl
          have c1 := (HH.out.below HB3.out).sents.cLa
          clear HSP2
          go_wp2_with fail
          go_quiet (fail)
          go_wp2
          go_ret2
          refine ⟨.nilIface, _, rfl, ⟨HB3.out.os, HB3.out.tape, HB3.out.output, HB3.out.size, HB3.out.block⟩, ?_⟩
          show TextIs _ _ _ _ _ _ _ _
          right; right; left
          rw [HT.out]; exact ⟨rfl, rfl, rfl, rfl⟩

set_option maxRecDepth 100000 in
set_option maxHeartbeats 4000000 in
theorem pcompact_any (s : ByteArray) (w : World) (hmax : s.size ≤ maxLen) {L S N A J La : Addr} (h : Std w L S N A J La) :
    Calls Tryz.prog 4 #[.string s] w fun e w' => e = .returned (.tuple #[.string (bs (specC s).1), .int .i64 (specC s).2.1, .int .i64 (specC s).2.2]) ∧ Below w.heap.size w w' := by
  have HH : Hid (Std w L S N A J La) := h
  have HQ : Hid (Calls Tryz.prog 6 #[.string s] w fun e w' => ∃ x er, e = .returned (.tuple #[x, er]) ∧ Below w.heap.size w w' ∧ Hid (TextIs s L J La w' w.heap.size x er)) := rtext_any s w hmax h
  obtain ⟨t, p, c, hsp⟩ : ∃ t p c, specC s = (t, p, c) := ⟨_, _, _, rfl⟩
  have HSP : Hid (specC s = (t, p, c)) := hsp
  rw [hsp]
  clear h hsp
  go_enter Tryz.func4, Tryz.ntmps4
  go_wp2_with fail
  refine Calls.mono HQ.out ?_
  rintro e w1 ⟨x, er, rfl, hb1, ht⟩
  have ht' := ht.out
  unfold TextIs at ht'
  rw [HSP.out] at ht'
  simp only at ht'
  have HS1 : Hid (Std w1 L S N A J La) := HH.out.below hb1
  clear ht HQ
  rcases ht' with ⟨rfl, rfl, rfl, rfl⟩ | ⟨rfl, rfl, rfl⟩ | ⟨rfl, rfl, rfl, rfl⟩ | ⟨rfl, rfl, rfl, v, rfl, hok, hlen, href⟩
  · go_wp2_with fail
    refine (place_other L w1 HS1.out.errT).mono ?_
    rintro e w2 ⟨rfl, hb2⟩
    go_wp2_with fail
    refine (errno_long w2 (HS1.out.below hb2).sents).mono ?_
    rintro e w3 ⟨rfl, rfl⟩
    go_wp2_with fail
    go_ret3
    exact ⟨rfl, hb1.trans (hb2.mono hb1.size)⟩
  · obtain ⟨E, hE⟩ : ∃ E, E = errV J p := ⟨_, rfl⟩
    have HP : Hid (∀ W, ErrT W → Calls Tryz.prog 7 #[E] W fun e w' => e = .returned (.int .i64 p) ∧ Below W.heap.size W w') := fun W hW => by rw [hE]; exact place_at p J W hW
    have HN : Hid (∀ W, Sents W L S N A J La → Calls Tryz.prog 8 #[E] W fun e w' => e = .returned (.int .i64 5) ∧ Below W.heap.size W w') := fun W hW => by rw [hE]; exact errno_at p W hW
    obtain ⟨te, ve, hE2⟩ : ∃ te ve, E = .iface te ve := ⟨_, _, hE⟩
    rw [← hE]
    subst hE2
    clear hE
    go_wp2_with fail
    refine (HP.out w1 HS1.out.errT).mono ?_
    rintro e w2 ⟨rfl, hb2⟩
    go_wp2_with fail
    refine (HN.out w2 (HS1.out.below hb2).sents).mono ?_
    rintro e w3 ⟨rfl, hb3⟩
    go_wp2_with fail
    go_ret3
    exact ⟨rfl, (hb1.trans (hb2.mono hb1.size)).trans (hb3.mono (Nat.le_trans hb1.size hb2.size))⟩
  · go_wp2_with fail
    refine (place_other La w1 HS1.out.errT).mono ?_
    rintro e w2 ⟨rfl, hb2⟩
    go_wp2_with fail
    refine (errno_large w2 (HS1.out.below hb2).sents).mono ?_
    rintro e w3 ⟨rfl, rfl⟩
    go_wp2_with fail
    go_ret3
    exact ⟨rfl, hb1.trans (hb2.mono hb1.size)⟩
  · have HR : Hid (RefP 12 w1 (fun m => m < w1.heap.size) v x) := RefP.keep2 12 href
    have HOK : Hid (VOk 12 v ∧ (vtext 12 v).length ≤ 600000) := ⟨hok, hlen⟩
    clear hok hlen href
    go_wp2_with fail
    refine (ptext_any 12 v x w1 HR.out HOK.out.1 HS1.out.pow HOK.out.2).mono ?_
    rintro e w2 ⟨rfl, hb2⟩
    go_wp2_with fail
    go_ret3
    exact ⟨rfl, hb1.trans (hb2.mono hb1.size)⟩

end Go.Proofs.YtjaoocincdoaaaaGreatDoor

namespace Go.Proofs.YtjaoocincdoaaaaGreatDoor
open Go.RowKit J

set_option linter.unusedVariables false

def exIn : ByteArray := ⟨#[123, 34, 97, 34, 58, 32, 49, 46, 53, 48, 44, 32, 34, 98, 34, 58, 91, 49, 101, 50, 44, 45, 48, 93, 44, 32, 34, 97, 34, 58, 34, 92, 117, 48, 48, 101, 57, 34, 125]⟩
def exOut : List UInt8 := [123, 34, 97, 34, 58, 34, 195, 169, 34, 44, 34, 98, 34, 58, 91, 49, 48, 48, 44, 48, 93, 125]

set_option maxRecDepth 100000 in
theorem ex_spec : specC exIn = (exOut, 0, 0) := by kernel_rfl

set_option maxRecDepth 100000 in
set_option maxHeartbeats 4000000 in
theorem lcompact_any (s : ByteArray) (w : World) (hmax : s.size ≤ maxLen) {L S N A J La : Addr} (h : Std w L S N A J La) :
    Calls Tryz.prog 5 #[.string s] w fun e w' => e = .returned (.bool true) ∧ Below w.heap.size w w' := by
  have HH : Hid (Std w L S N A J La) := h
  have HM : Hid (s.size ≤ maxLen) := hmax
  obtain ⟨t, p, c, hsp⟩ : ∃ t p c, specC s = (t, p, c) := ⟨_, _, _, rfl⟩
  have HQ1 : Hid (∀ W, Std W L S N A J La → Calls Tryz.prog 4 #[.string s] W fun e w' => e = .returned (.tuple #[.string (bs t), .int .i64 p, .int .i64 c]) ∧ Below W.heap.size W w') := fun W hW => by have := pcompact_any s W hmax hW; rw [hsp] at this; exact this
  have HQ2 : Hid (∀ W, Calls Tryz.prog 10 #[.string s] W fun e w' => e = .returned (.tuple #[.string (bs t), .int .i64 p, .int .i64 c]) ∧ Below W.heap.size W w') := fun W => by have := ref_compact s W hmax; rw [hsp] at this; exact this
  have heq := str_eq (rfl : bs t = bs t)
  clear h hsp hmax
  go_enter Tryz.func5, Tryz.ntmps5
  go_wp2_with fail
  refine (HQ1.out w HH.out).mono ?_
  rintro e w1 ⟨rfl, hb1⟩
  go_wp2_with fail
  refine (HQ2.out w1).mono ?_
  rintro e w2 ⟨rfl, hb2⟩
  go_wp2_with fail
  go_ret
  exact ⟨by simp, hb1.trans (hb2.mono hb1.size)⟩

set_option maxRecDepth 100000 in
set_option maxHeartbeats 4000000 in
theorem compacts_any (s : ByteArray) (w : World) (hmax : s.size ≤ maxLen) {L S N A J La : Addr} (h : Std w L S N A J La) :
    Calls Tryz.prog 3 #[.string s] w fun e w' => e = .returned (.bool true) ∧ Below w.heap.size w w' := by
  have HH : Hid (Std w L S N A J La) := h
  have HM : Hid (s.size ≤ maxLen) := hmax
  have HQ1 : Hid (Calls Tryz.prog 4 #[.string ⟨#[123, 34, 97, 34, 58, 32, 49, 46, 53, 48, 44, 32, 34, 98, 34, 58, 91, 49, 101, 50, 44, 45, 48, 93, 44, 32, 34, 97, 34, 58, 34, 92, 117, 48, 48, 101, 57, 34, 125]⟩] w fun e w' => e = .returned (.tuple #[.string ⟨#[123, 34, 97, 34, 58, 34, 195, 169, 34, 44, 34, 98, 34, 58, 91, 49, 48, 48, 44, 48, 93, 125]⟩, .int .i64 0, .int .i64 0]) ∧ Below w.heap.size w w') := by
    have := pcompact_any exIn w (by unfold maxLen; decide) h
    rw [ex_spec] at this; exact this
  clear h hmax
  go_enter Tryz.func3, Tryz.ntmps3
  go_wp2_with fail
  refine Calls.mono HQ1.out ?_
  rintro e w1 ⟨rfl, hb1⟩
  go_wp2_with fail
  refine (lcompact_any s w1 HM.out (HH.out.below hb1)).mono ?_
  rintro e w2 ⟨rfl, hb2⟩
  go_wp2_with fail
  go_ret
  exact ⟨rfl, hb1.trans (hb2.mono hb1.size)⟩

end Go.Proofs.YtjaoocincdoaaaaGreatDoor

namespace Go.Proofs.YtjaoocincdoaaaaGreatDoor
open Go.RowKit J

set_option linter.unusedVariables false

/-- A sentinel's datum. -/
def sentD (t : List UInt8) : DataW Unit := .iface "*errors.errorString" (.ptr (.agg [.lit (.string t)]))

theorem zStar : "*" ++ "errors.errorString" = "*errors.errorString" := by decide
theorem zRow (u : TypeId) (h : Tryz.prog.typeName? 3 u = some "*errors.errorString") : u = 209 :=
  typeName_ptr_named (nm := "errors.errorString") (by rw [zStar]; kernel_rfl) (by kernel_rfl) (by decide) u (by rw [zStar]; exact h)
theorem zCellsE : Tryz.prog.cellsOf 211 = 1 := by kernel_rfl
theorem zCellsS : Tryz.prog.cellsOf 9 = 1 := by kernel_rfl

/-- What one sentinel of the list gives. -/
def SentAt (W : World) (ps : List MemPlace) (n : String) (a : Addr) : Prop :=
  W.var? Tryz.prog n = some #[.iface 209 (.pointer (some a))] ∧ MemPlace.cell a.block a.off ∈ ps

set_option maxRecDepth 100000 in
theorem sents_of {W : World} : ∀ (l : List (String × List UInt8)) (rest : List (String × DataW Unit)) (ps : List MemPlace), DataW.LaidVars Tryz.prog W (l.map (fun x => (x.1, sentD x.2)) ++ rest) ps → ps.Nodup →
    (∀ b off, MemPlace.cell b off ∈ ps → ∀ u v, W.cell? ⟨b, off, none⟩ = some (.iface u v) → Value.okWide Tryz.prog W .any 0 u v) →
    (∀ x ∈ l, ∀ g t, Tryz.prog.globalNamed x.1 = some g → (Tryz.prog.globals[g]?).map (·.type) = some t → t = 29) →
    ∃ ads : List Addr, All2 (fun (x : String × List UInt8) a => SentAt W ps x.1 a) l ads ∧ ads.Nodup
  | [], rest, ps, _, _, _, _ => ⟨[], trivial, List.nodup_nil⟩
  | (n, t) :: l, rest, ps, h, hnd, hok, hty => by
    obtain ⟨g, ty, cs, fuel, p, q, hg, ht, hv, hd, hr, rfl⟩ := h
    obtain rfl := hty (n, t) (List.mem_cons_self ..) g ty hg ht
    have hq : q.Nodup := (List.nodup_append.1 hnd).2.1
    obtain ⟨ads, hall, hasn⟩ := sents_of l rest q hr hq (fun b off hm => hok b off (List.mem_append_right _ hm)) (fun x hx => hty x (List.mem_cons_of_mem _ hx))
    obtain ⟨l0⟩ := cs
    have ok0 : ∀ u v, l0 = [.iface u v] → Value.okWide Tryz.prog W .any 0 u v := fun u v e => by
      subst e
      exact hok g 0 (by simp [MemPlace.row]) u v (by simpa using World.var?_cell hg hv 0)
    obtain ⟨a, s, rfl, hc, hs, hz, rfl⟩ := errorString_of_trod (f := { name := "s", type := 9, offset := 0, embedded := false, tag := "", pkgPath := "errors", byteOffset := 0 }) Tryz.underlying29 zRow Tryz.underlying209 Tryz.underlying211 rfl rfl Tryz.underlying9 zCellsE zCellsS hd ok0
    refine ⟨a :: ads, ⟨⟨hv, by simp [MemPlace.row]⟩, hall.mono (fun x b hb => ⟨hb.1, List.mem_append_right _ hb.2⟩)⟩, ?_⟩
    rw [List.nodup_cons]
    refine ⟨fun hm => ?_, hasn⟩
    obtain ⟨x, hx⟩ := All2.mem hall a hm
    have hdis := (List.nodup_append.1 hnd).2.2
    exact hdis (MemPlace.cell a.block a.off) (by simp [MemPlace.row]) (MemPlace.cell a.block a.off) hx.2 rfl

/-- The list, but for the library's handle. -/
def zSents : List (String × List UInt8) := [("strconv.ErrRange", [118, 97, 108, 117, 101, 32, 111, 117, 116, 32, 111, 102, 32, 114, 97, 110, 103, 101]), ("strconv.ErrSyntax", [105, 110, 118, 97, 108, 105, 100, 32, 115, 121, 110, 116, 97, 120]), ("pluck/fault.Long", [116, 104, 101, 32, 116, 101, 120, 116, 32, 105, 115, 32, 116, 111, 111, 32, 108, 111, 110, 103]), ("pluck/fault.Syntax", [110, 111, 32, 101, 120, 112, 114, 101, 115, 115, 105, 111, 110]), ("pluck/fault.Name", [110, 111, 32, 115, 117, 99, 104, 32, 102, 117, 110, 99, 116, 105, 111, 110]), ("pluck/fault.Arity", [110, 111, 116, 32, 116, 104, 101, 32, 97, 114, 103, 115, 32, 116, 104, 97, 116, 32, 116, 104, 101, 32, 102, 117, 110, 99, 116, 105, 111, 110, 32, 116, 97, 107, 101, 115]), ("pluck/fault.JSON", [110, 111, 32, 74, 83, 79, 78, 32, 116, 101, 120, 116]), ("pluck/fault.Large", [97, 32, 110, 117, 109, 98, 101, 114, 32, 116, 104, 97, 116, 32, 105, 115, 32, 116, 111, 111, 32, 103, 114, 101, 97, 116, 44, 32, 111, 114, 32, 116, 111, 111, 32, 102, 105, 110, 101, 44, 32, 111, 114, 32, 97, 32, 118, 97, 108, 117, 101, 32, 116, 104, 97, 116, 32, 105, 115, 32, 116, 111, 111, 32, 104, 101, 97, 118, 121]), ("pluck/fault.Type", [97, 32, 102, 117, 110, 99, 116, 105, 111, 110, 32, 111, 102, 32, 119, 104, 97, 116, 32, 105, 116, 32, 100, 111, 101, 115, 32, 110, 111, 116, 32, 116, 97, 107, 101])]
def zPlain : List (String × DataW Unit) := ("math/bits.deBruijn32tab", Rows.laid_math_bits_deBruijn32tab) :: ("math/bits.deBruijn64tab", Rows.laid_math_bits_deBruijn64tab) :: ("internal/strconv.uint64pow10", Rows.laid_internal_strconv_uint64pow10) :: ("unicode/utf8.acceptRanges", Rows.laid_unicode_utf8_acceptRanges) :: (zSents.map (fun x => (x.1, sentD x.2)) ++ [("unicode/utf8.first", Rows.laid_unicode_utf8_first)])

theorem zFilN : (Rows.compactsRow.laid.filter fun x => x.2.handleName?.isNone) = zPlain := by kernel_rfl
theorem zFilS : (Rows.compactsRow.laid.filter fun x => x.2.handleName?.isSome) = [("errors.errorType", Rows.laid_errors_errorType)] := by kernel_rfl
theorem zParts {W : World} (h : laidMetH Tryz.prog Rows.compactsRow.laid W) : laidMet Tryz.prog zPlain W ∧ handlesMet Tryz.prog [("errors.errorType", Rows.laid_errors_errorType)] W := by
  unfold laidMetH at h
  rw [zFilS, zFilN] at h
  exact h

/-! The handle. -/
theorem zEt : Tryz.prog.globalNamed "errors.errorType" = some 7 := by kernel_rfl
theorem zRt : (Tryz.prog.cutTypes.find? (·.1 == "internal/reflectlite.rtype")).map (·.2) = some 95 := by kernel_rfl
theorem zSize : Tryz.prog.types.size + 100 = 346 := by kernel_rfl
theorem zOne : ((List.range Tryz.prog.types.size).filter fun t => Tryz.prog.rowNamed t [101, 114, 114, 111, 114]) = [29] := by kernel_rfl
theorem zHandle {W : World} (h : handlesMet Tryz.prog [("errors.errorType", Rows.laid_errors_errorType)] W) : ErrT W := by
  obtain ⟨name, u, ty, e1, e2, e3, e4, e5⟩ := h _ (List.mem_singleton.2 rfl)
  have en : name = [101, 114, 114, 111, 114] := (Option.some.inj e1).symm
  subst en
  obtain rfl := Option.some.inj (zRt.symm.trans e2)
  have hm : ty ∈ (List.range Tryz.prog.types.size).filter fun t => Tryz.prog.rowNamed t [101, 114, 114, 111, 114] := List.mem_filter.2 ⟨List.mem_range.2 e3, e4⟩
  rw [zOne] at hm
  obtain rfl := List.mem_singleton.1 hm
  have hh : typeHandle Tryz.prog 29 = .pointer (some ⟨16, 29, none⟩) := by kernel_rfl
  rw [hh] at e5
  unfold ErrT
  simpa using World.var?_cell zEt e5 0

end Go.Proofs.YtjaoocincdoaaaaGreatDoor

namespace Go.Proofs.YtjaoocincdoaaaaGreatDoor
open Go.RowKit J

set_option linter.unusedVariables false

theorem laid_tail {P : Program} {W : World} {x : String × DataW Unit} {r : List (String × DataW Unit)} {ps : List MemPlace} (h : DataW.LaidVars P W (x :: r) ps) : ∃ q, DataW.LaidVars P W r q ∧ (ps.Nodup → q.Nodup) ∧ ∀ y ∈ q, y ∈ ps := by
  obtain ⟨n, d⟩ := x
  obtain ⟨g, t, cs, f, p, q, _, _, _, _, hr, rfl⟩ := h
  exact ⟨q, hr, fun hn => (List.nodup_append.1 hn).2.1, fun y hy => List.mem_append_right _ hy⟩

theorem zTyB : (zSents.all fun x => ((Tryz.prog.globalNamed x.1).bind fun g => (Tryz.prog.globals[g]?).map (·.type)) == some 29) = true := by kernel_rfl
theorem zTy : ∀ x ∈ zSents, ∀ g t, Tryz.prog.globalNamed x.1 = some g → (Tryz.prog.globals[g]?).map (·.type) = some t → t = 29 := by
  intro x hx g t hg ht
  have h := List.all_eq_true.1 zTyB x hx
  rw [hg, Option.bind_some, ht, beq_iff_eq] at h
  exact Option.some.inj h

theorem gR : Tryz.prog.globalNamed "strconv.ErrRange" = some 13 := by kernel_rfl
theorem gL : Tryz.prog.globalNamed "pluck/fault.Long" = some 0 := by kernel_rfl
theorem gS : Tryz.prog.globalNamed "pluck/fault.Syntax" = some 2 := by kernel_rfl
theorem gN : Tryz.prog.globalNamed "pluck/fault.Name" = some 3 := by kernel_rfl
theorem gA : Tryz.prog.globalNamed "pluck/fault.Arity" = some 4 := by kernel_rfl
theorem gJ : Tryz.prog.globalNamed "pluck/fault.JSON" = some 5 := by kernel_rfl
theorem gLa : Tryz.prog.globalNamed "pluck/fault.Large" = some 1 := by kernel_rfl
theorem gP : Tryz.prog.globalNamed "internal/strconv.uint64pow10" = some 9 := by kernel_rfl
theorem gSize : Tryz.prog.globals.size = 16 := by kernel_rfl
theorem rowJ : (((begin Tryz.prog (fun _ _ => 0) default).world.heap[5]?).bind Obj.row?) = some (#[.nilIface], 29) := by kernel_rfl
theorem rowM : (((begin Tryz.prog (fun _ _ => 0) default).world.heap[8]?).bind Obj.row?) = some (#[.int .i64 0], 3) := by kernel_rfl
theorem rowLastB : ((((begin Tryz.prog (fun _ _ => 0) default).world.heap[16 - 1]?).bind Obj.row?).isSome) = true := by kernel_rfl
theorem bM : Tryz.prog.buildable 3 = true := by kernel_rfl
theorem cM : Tryz.prog.cellTypes Tryz.prog.depth 3 = some [3] := by kernel_rfl

/-- A variable of an integer type holds some integer. -/
theorem int_of_shape {P : Program} {w : World} {g : Nat} {t : TypeId} {k : IntKind} {zero : Array Value} (h : w.ShapedOpen P) (hg : g < P.globals.size)
    (h0 : ((begin P (fun _ _ => 0) default).world.heap[g]?).bind Obj.row? = some (zero, t)) (hz : zero.size = 1)
    (hb : P.buildable t = true) (hc : P.cellTypes P.depth t = some [t]) (hu : P.underlying t = some (.int k)) : ∃ m, w.cell? ⟨g, 0, none⟩ = some (.int k m) := by
  obtain ⟨cs, hh, hs, hr⟩ := h.1 g zero t hg h0
  obtain ⟨ts, hts, _, hall⟩ := hr hb
  rw [hc] at hts
  cases hts
  have h1 : 0 < cs.size := by omega
  obtain ⟨u, hu', hok⟩ := hall 0 cs[0] (by simp [h1])
  have : u = t := by simpa using hu'.symm
  subst this
  have hcell : w.cell? ⟨g, 0, none⟩ = some cs[0] := by simp [World.cell?, hh, h1]
  rw [hcell]
  unfold Cell.ok at hok
  rw [hu] at hok
  cases hv : cs[0] <;> rw [hv] at hok <;> simp at hok
  obtain ⟨rfl, _⟩ := hok
  exact ⟨_, rfl⟩
theorem max_of_shape {W : World} (h : W.ShapedOpen Tryz.prog) : ∃ m, W.cell? ⟨8, 0, none⟩ = some (.int .i64 m) :=
  int_of_shape h (by rw [gSize]; decide) rowM rfl bM cM Tryz.underlying3

/-! The tables. -/
theorem dPow : Rows.laid_internal_strconv_uint64pow10 = (Lib.tabData .u64 Lib.pow10Tab : DataW Unit) := by kernel_rfl
theorem dAcc : Rows.laid_unicode_utf8_acceptRanges = (Lib.acceptData : DataW Unit) := by kernel_rfl
theorem tPow : (Tryz.prog.globals[9]?).map (·.type) = some 194 := by kernel_rfl
theorem cPow : Tryz.prog.cellsOf 194 = 20 := by kernel_rfl
theorem cU64 : Tryz.prog.cellsOf 166 = 1 := by kernel_rfl

theorem pow_of {W : World} (h : Lib.VarReads Tryz.prog W "internal/strconv.uint64pow10" (Lib.tabData .u64 Lib.pow10Tab)) : Lib.TabIs Tryz.prog W "internal/strconv.uint64pow10" .u64 Lib.pow10Tab := by
  obtain ⟨g, t, cs, fuel, p, hg, hty, hvar, hd⟩ := h
  obtain rfl := Option.some.inj (gP.symm.trans hg)
  obtain rfl := Option.some.inj (tPow.symm.trans hty)
  unfold Lib.TabIs
  rw [hvar, ← Lib.cells_of_tab Tryz.underlying194 Tryz.underlying166 cU64 cPow hd]

def zRen : Shelf.Ren := ⟨fun x => x, fun x => if x = 5 then 5 else if x = 119 then 200 else if x = 138 then 202 else 203, fun x => if x = 3 then 10 else 11⟩
theorem zU8 : U8Types Tryz.prog zRen := ⟨Tryz.underlying5, Tryz.underlying200, Tryz.underlying202, Tryz.underlying203⟩
theorem zU8X : U8Extra Tryz.prog zRen := ⟨by kernel_rfl, by kernel_rfl, by kernel_rfl, by kernel_rfl, by kernel_rfl, by kernel_rfl, by kernel_rfl⟩

theorem zMemP : (("internal/strconv.uint64pow10", (Lib.tabData .u64 Lib.pow10Tab : DataW Unit)) ∈ zPlain) := by
  rw [← dPow]; exact .tail _ (.tail _ (.head _))
theorem zMemA : (("unicode/utf8.acceptRanges", (Lib.acceptData : DataW Unit)) ∈ zPlain) := by
  rw [← dAcc]; exact .tail _ (.tail _ (.tail _ (.head _)))
theorem zMemF : (("unicode/utf8.first", (Lib.firstData : DataW Unit)) ∈ zPlain) := by
  rw [← Pinned.utf8First_eq]
  exact .tail _ (.tail _ (.tail _ (.tail _ (List.mem_append_right _ (List.mem_singleton.2 rfl)))))

set_option maxRecDepth 100000 in
theorem std_of {W : World} (h : laidMetH Tryz.prog Rows.compactsRow.laid W) (hsh : W.ShapedOpen Tryz.prog) : ∃ L S N A J La, Std W L S N A J La := by
  obtain ⟨hl, hh⟩ := zParts h
  have hE := zHandle hh
  have hU : Lib.Utf8Tabs 10 11 W := utf8Tabs_of_readsT zU8 zU8X (Lib.laidMet.reads hl zMemF) (Lib.laidMet.reads hl zMemA)
  have hP := pow_of (Lib.laidMet.reads hl zMemP)
  obtain ⟨m, hM⟩ := max_of_shape hsh
  obtain ⟨ps, hv0, hnd, hrows⟩ := hl
  unfold zPlain at hv0
  have hv := hv0
  obtain ⟨q1, hv1, hn1, hs1⟩ := laid_tail hv
  obtain ⟨q2, hv2, hn2, hs2⟩ := laid_tail hv1
  obtain ⟨q3, hv3, hn3, hs3⟩ := laid_tail hv2
  obtain ⟨q4, hv4, hn4, hs4⟩ := laid_tail hv3
  have hin : ∀ y ∈ q4, y ∈ ps := fun y hy => hs1 y (hs2 y (hs3 y (hs4 y hy)))
  have hq4 : q4.Nodup := hn4 (hn3 (hn2 (hn1 hnd)))
  have hok4 : ∀ b off, MemPlace.cell b off ∈ q4 → ∀ u v, W.cell? ⟨b, off, none⟩ = some (.iface u v) → Value.okWide Tryz.prog W .any 0 u v := fun b off hm => (hrows b off (hin _ hm)).2
  obtain ⟨ads, hall, hasn⟩ := sents_of zSents [("unicode/utf8.first", Rows.laid_unicode_utf8_first)] q4 hv4 hq4 hok4 zTy
  have blk : ∀ a : Addr, MemPlace.cell a.block a.off ∈ q4 → ∃ c t, W.heap[a.block]? = some (.cells c t (0, 0)) := fun a ha => (hrows a.block a.off (hin _ ha)).1
  match ads, hall, hasn with
  | [eR, eS, L, S, N, A, J, La, Ty], ⟨h1, h2, h3, h4, h5, h6, h7, h8, h9, _⟩, hasn =>
    refine ⟨L, S, N, A, J, La, ?_, ⟨?_, ?_, ?_, ?_, ?_, ?_, blk _ h3.2, blk _ h4.2, blk _ h5.2, blk _ h6.2, blk _ h7.2, blk _ h8.2, ?_⟩, ?_, ⟨hU, ⟨m, hM⟩, 209, .pointer (some eR), ?_⟩, hE, Lib.tabBelow_of_tabIs hP⟩
    · obtain ⟨x, hx⟩ := Option.isSome_iff_exists.1 rowLastB
      obtain ⟨cs, hh, _⟩ := hsh.1 (16 - 1) x.1 x.2 (by rw [gSize]; decide) hx
      have := lt_of_heap hh
      omega
    · simpa using World.var?_cell gL h3.1 0
    · simpa using World.var?_cell gS h4.1 0
    · simpa using World.var?_cell gN h5.1 0
    · simpa using World.var?_cell gA h6.1 0
    · simpa using World.var?_cell gJ h7.1 0
    · simpa using World.var?_cell gLa h8.1 0
    · simp only [List.nodup_cons, List.mem_cons, not_or] at hasn
      obtain ⟨_, _, ⟨n1, n2, n3, n4, n5, _⟩, ⟨n6, n7, n8, n9, _⟩, ⟨n10, n11, n12, _⟩, ⟨n13, n14, _⟩, ⟨n15, _⟩, _⟩ := hasn
      exact ⟨n1, n2, n3, n4, n5, n6, n7, n8, n9, n10, n11, n12, n13, n14, n15⟩
    · obtain ⟨cs, hh, _⟩ := hsh.1 5 _ _ (by rw [gSize]; decide) rowJ
      have hc := h7.1
      unfold World.var? at hc
      rw [gJ, Option.bind_some, hh] at hc
      have hce : cs = #[.iface 209 (.pointer (some J))] := Option.some.inj hc
      rw [hh, hce]
    · exact by simpa using World.var?_cell gR h1.1 0

end Go.Proofs.YtjaoocincdoaaaaGreatDoor

namespace Go.Proofs.YtjaoocincdoaaaaGreatDoor
open Go.RowKit J

set_option linter.unusedVariables false

/-- A variable's cells laid anew. -/
def zPut (h : Array Obj) (g : Nat) (cs : Array Value) : Array Obj := h.modify g fun
  | .cells _ t frozen => .cells cs t frozen
  | o => o

def zOf : DataW Unit → Array Value
  | .agg ps => (ps.flatMap fun d => match d with
    | .lit (.int k z) => [Value.int k z]
    | .agg qs => qs.filterMap fun e => match e with
      | .lit (.int k z) => some (Value.int k z)
      | _ => none
    | _ => []).toArray
  | _ => #[]

/-- The heap with the listed variables laid; N: where the sentinels' own blocks begin. -/
def zHeap (h0 : Array Obj) (N : Nat) : Array Obj :=
  let put := zPut
  let h1 := put h0 14 (zOf Rows.laid_math_bits_deBruijn32tab)
  let h2 := put h1 15 (zOf Rows.laid_math_bits_deBruijn64tab)
  let h3 := put h2 9 (zOf Rows.laid_internal_strconv_uint64pow10)
  let h4 := put h3 11 (zOf Rows.laid_unicode_utf8_acceptRanges)
  let k0 := put h4 13 #[.iface 209 (.pointer (some ⟨N + 0, 0, none⟩))]
  let k1 := put k0 12 #[.iface 209 (.pointer (some ⟨N + 1, 0, none⟩))]
  let k2 := put k1 0 #[.iface 209 (.pointer (some ⟨N + 2, 0, none⟩))]
  let k3 := put k2 2 #[.iface 209 (.pointer (some ⟨N + 3, 0, none⟩))]
  let k4 := put k3 3 #[.iface 209 (.pointer (some ⟨N + 4, 0, none⟩))]
  let k5 := put k4 4 #[.iface 209 (.pointer (some ⟨N + 5, 0, none⟩))]
  let k6 := put k5 5 #[.iface 209 (.pointer (some ⟨N + 6, 0, none⟩))]
  let k7 := put k6 1 #[.iface 209 (.pointer (some ⟨N + 7, 0, none⟩))]
  let k8 := put k7 6 #[.iface 209 (.pointer (some ⟨N + 8, 0, none⟩))]
  let m1 := put k8 10 (Lib.firstTab.map fun z => Value.int .u8 z).toArray
  put m1 7 #[.iface 95 (.agg #[.pointer (some ⟨16, 29, none⟩)])]

def zBlocks : Array Obj := #[.cells #[.string ⟨#[118, 97, 108, 117, 101, 32, 111, 117, 116, 32, 111, 102, 32, 114, 97, 110, 103, 101]⟩] 211, .cells #[.string ⟨#[105, 110, 118, 97, 108, 105, 100, 32, 115, 121, 110, 116, 97, 120]⟩] 211, .cells #[.string ⟨#[116, 104, 101, 32, 116, 101, 120, 116, 32, 105, 115, 32, 116, 111, 111, 32, 108, 111, 110, 103]⟩] 211, .cells #[.string ⟨#[110, 111, 32, 101, 120, 112, 114, 101, 115, 115, 105, 111, 110]⟩] 211, .cells #[.string ⟨#[110, 111, 32, 115, 117, 99, 104, 32, 102, 117, 110, 99, 116, 105, 111, 110]⟩] 211, .cells #[.string ⟨#[110, 111, 116, 32, 116, 104, 101, 32, 97, 114, 103, 115, 32, 116, 104, 97, 116, 32, 116, 104, 101, 32, 102, 117, 110, 99, 116, 105, 111, 110, 32, 116, 97, 107, 101, 115]⟩] 211, .cells #[.string ⟨#[110, 111, 32, 74, 83, 79, 78, 32, 116, 101, 120, 116]⟩] 211, .cells #[.string ⟨#[97, 32, 110, 117, 109, 98, 101, 114, 32, 116, 104, 97, 116, 32, 105, 115, 32, 116, 111, 111, 32, 103, 114, 101, 97, 116, 44, 32, 111, 114, 32, 116, 111, 111, 32, 102, 105, 110, 101, 44, 32, 111, 114, 32, 97, 32, 118, 97, 108, 117, 101, 32, 116, 104, 97, 116, 32, 105, 115, 32, 116, 111, 111, 32, 104, 101, 97, 118, 121]⟩] 211, .cells #[.string ⟨#[97, 32, 102, 117, 110, 99, 116, 105, 111, 110, 32, 111, 102, 32, 119, 104, 97, 116, 32, 105, 116, 32, 100, 111, 101, 115, 32, 110, 111, 116, 32, 116, 97, 107, 101]⟩] 211]

/-- There is such a world. -/
def Fits (os : Os) (w : World) : Prop :=
  w.os = os ∧ (w.forCall (fun _ _ => 0) ⟨#[], #[.string ⟨#[]⟩], []⟩).variablesRefB Tryz.prog = true ∧
  ((w.forCall (fun _ _ => 0) ⟨#[], #[.string ⟨#[]⟩], []⟩).heap.toList.drop Tryz.prog.globals.size).take ((begin Tryz.prog (fun _ _ => 0) default).world.heap.size - Tryz.prog.globals.size) = (begin Tryz.prog (fun _ _ => 0) default).world.heap.toList.drop Tryz.prog.globals.size ∧
  Input.okWideB Tryz.prog (w.forCall (fun _ _ => 0) ⟨#[], #[.string ⟨#[]⟩], []⟩) 3 ⟨#[], #[.string ⟨#[]⟩], []⟩ = true ∧
  laidMetH Tryz.prog Rows.compactsRow.laid (w.forCall (fun _ _ => 0) ⟨#[], #[.string ⟨#[]⟩], []⟩).memory

set_option maxRecDepth 1000000 in
theorem fits_ex (os : Os) : ∃ w, Fits os w := by
  refine ⟨{ World.holding Tryz.prog os ⟨zBlocks, #[], []⟩ with heap := zHeap (World.holding Tryz.prog os ⟨zBlocks, #[], []⟩).heap (World.settled Tryz.prog default).heap.size }, rfl, by kernel_rfl, by kernel_rfl, by kernel_rfl, ?_⟩
  refine laidMetH_of_parts ?_ (by kernel_rfl)
  rw [zFilN]
  exact laidMet_of_run' 8 (by kernel_rfl) (by kernel_rfl)

end Go.Proofs.YtjaoocincdoaaaaGreatDoor
