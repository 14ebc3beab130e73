/- The program's reader: a number. The program's reader: a key. The program's values, written: bytes and strings. The digits of a number: the document's and the library's are the same. The program's numbers, written. -/
import Derived.Test.YtjaoocincdoaaaaGreatDoorA12
import Derived.Lib.OthersKept
import Derived.Test.YtjaoocincdoaaaaGreatDoorShelf
namespace Go.Proofs.YtjaoocincdoaaaaGreatDoor
open Go.RowKit J

set_option linter.unusedVariables false

/-- What 'number' hands back. -/
def NumIs (J : Addr) (R : Option (Option Int) × Nat × Int) (neg lg : Bool) (e : Ending) (lg' : Bool) : Prop :=
  (0 ≤ R.2.2 ∧ lg' = lg ∧ e = .returned (.tuple #[.nilIface, errV J R.2.1])) ∨
  (R.2.2 < 0 ∧ lg' = numLg lg R.1 ∧ ∃ x, R.1 = some x ∧ e = .returned (.tuple #[.iface 76 (.int .i64 (if neg then -(x.getD 0) else x.getD 0)), .nilIface]))

theorem PS.below {w w' : World} {b : Nat} {s : ByteArray} {k : Nat} {op : Int} {lg : Bool} {J : Addr} (h : PS w b s k op lg J) (hb : Below w.heap.size w w') : PS w' b s k op lg J :=
  ⟨(hb.block b (lt_of_heap h.1)).trans h.1, (hb.block _ (lt_of_heap h.2.1)).trans h.2.1, h.2.2⟩

theorem none_of_some {X : Option Int} (h : false = X.isSome) : X = none := by
  cases X with
  | none => rfl
  | some x => simp at h
theorem numLg_some {X : Option Int} {lg : Bool} (h : true = X.isSome) : numLg lg (some X) = lg := by
  cases X with
  | none => simp at h
  | some x => rfl
theorem ptakeR_t {s : ByteArray} {k : Nat} {c : Int} {k' : Nat} (h : ptakeR s k c = (true, k')) (hc : 0 < c) : gb s k = c ∧ k' = k + 1 ∧ k < s.size := by
  unfold ptakeR at h; split at h
  · rename_i g
    have hg := (pk_gb hc).1 g
    simp only [Prod.mk.injEq, true_and] at h
    exact ⟨hg, h.symm, lt_of_gb (by omega)⟩
  · simp at h
theorem ptakeR_f {s : ByteArray} {k : Nat} {c : Int} {k' : Nat} (h : ptakeR s k c = (false, k')) (hc : 0 < c) : gb s k ≠ c ∧ k' = k := by
  unfold ptakeR at h; split at h
  · simp at h
  · rename_i g
    simp only [Prod.mk.injEq, true_and] at h
    exact ⟨fun e => g ((pk_gb hc).2 e), h.symm⟩

theorem hid_ofn {p : Prop} (h : p) : Hid p := h

/-- What 'numeral' hands back. -/
def NumlIs (J : Addr) (s : ByteArray) (k : Nat) (R : Option (Option Int) × Nat × Int) (k6 : Nat) (e : Ending) : Prop :=
  (0 ≤ R.2.2 ∧ R.2.1 = k6 ∧ e = .returned (errV J k6)) ∨
  (e = .returned .nilIface ∧ ∃ k1 k3 pt k5 pw, k1 = (if gb s k = 45 then k + 1 else k) ∧ wholeE s k1 = some k3 ∧ partR s k3 = (pt, k5, -1) ∧ expR s k5 (-1) = (pw, k6, -1))

set_option maxHeartbeats 8000000 in
/-- An exponent, behind its sign. -/
theorem pexp_end {b : Nat} {s : ByteArray} {k k5 k8 : Nat} {op : Int} {lg : Bool} {w w8 : World} {J : Addr} {R : Option (Option Int) × Nat × Int} (hR : R = numR s k) {k1 k3 : Nat} (hk1 : k1 = if gb s k = 45 then k + 1 else k) (hwe : wholeE s k1 = some k3) (hpr : ∃ pt, partR s k3 = (pt, k5, -1))
    (hex : cv s k5 (-1) = 101 ∨ cv s k5 (-1) = 69) (hks : k8 = if gb s (k5 + 1) = 45 ∨ gb s (k5 + 1) = 43 then k5 + 2 else k5 + 1) (hb : But b w w8) (hp : PS w8 b s k8 op lg J) (hk8 : k8 ≤ s.size) (hs : s.size ≤ 1000) :
    Calls Tryz.prog 64 #[.pointer (some ⟨b, 0, none⟩)] w8 fun e w' => ∃ k6 v, e = .returned v ∧ (v = .nilIface ∨ ∃ t x, v = .iface t x) ∧ Hid (NumlIs J s k R k6 (.returned v)) ∧ But b w w' ∧ PS w' b s k6 op lg J := by
  refine (pdigits_any b s k8 op lg _ hp hk8 hs).mono ?_
  rintro e w9 ⟨rfl, hb9, hp9⟩
  obtain ⟨pt, hpt⟩ := hpr
  cases hd : isDig (gb s k8)
  · rw [hd] at hp9
    simp only [Bool.false_eq_true, if_false] at hp9 ⊢
    refine ⟨k8, _, rfl, ?_, ?_, hb.trans hb9, hp9⟩
    · rw [errV]; exact Or.inr ⟨_, _, rfl⟩
    · have hrx : runX s k8 = (⟨#[48]⟩, k8, ((k8 : Nat) : Int)) := by rw [runX, hd]; rfl
      have hxr : expR s k5 (-1) = ((if gb s (k5 + 1) = 45 then - powF (ByteArray.mk #[48]).data.toList 0 else powF (ByteArray.mk #[48]).data.toList 0), k8, ((k8 : Nat) : Int)) := by
        rw [expR, if_pos hex, ← hks]; simp only; rw [hrx]
      have := numR_some hk1 hwe hpt hxr
      refine Or.inl ⟨?_, ?_, rfl⟩
      · rw [hR, this]; simp only; omega
      · rw [hR, this]
  · rw [hd] at hp9
    simp only [if_true] at hp9 ⊢
    refine ⟨runE s k8, _, rfl, ?_, ?_, hb.trans hb9, hp9⟩
    · exact Or.inl rfl
    · have hrx : runX s k8 = (s.extract k8 (runE s k8), runE s k8, -1) := by rw [runX, hd]; rfl
      exact Or.inr ⟨rfl, k1, k3, pt, k5, _, hk1, hwe, hpt, by rw [expR, if_pos hex, ← hks]; simp only; rw [hrx]⟩

set_option maxHeartbeats 8000000 in
/-- The text of a number is passed. -/
theorem pnumeral_any (b : Nat) (s : ByteArray) (k : Nat) (op : Int) (lg : Bool) (w : World) {J : Addr} (hp : PS w b s k op lg J) (hk : k ≤ s.size) (hs : s.size ≤ 1000) :
    Calls Tryz.prog 42 #[.pointer (some ⟨b, 0, none⟩)] w fun e w' => ∃ k6 v, e = .returned v ∧ (v = .nilIface ∨ ∃ t x, v = .iface t x) ∧ Hid (NumlIs J s k (numR s k) k6 (.returned v)) ∧ But b w w' ∧ PS w' b s k6 op lg J := by
  have HP : Hid (PS w b s k op lg J) := hp
  obtain ⟨R, hR⟩ : ∃ R, R = numR s k := ⟨_, rfl⟩
  have HR : Hid (R = numR s k) := hR
  rw [← hR]
  obtain ⟨g0, g1, g2, g3, hf⟩ := pcells hp.1
  clear hp hR g0 g1 g2 g3 hf
  go_enter Tryz.func42, Tryz.ntmps42
  go_wp2_with fail
  refine (ptake_ex b s k op lg 45 _ HP.out hk hs).mono ?_
  rintro e w1 ⟨t1, k1, rfl, hb1, hp1, ht1⟩
  have HK1 : Hid (k1 = if gb s k = 45 then k + 1 else k) := by
    show _ = _
    cases t1
    · obtain ⟨h, h'⟩ := ptakeR_f ht1.out (by omega); rw [if_neg h, h']
    · obtain ⟨h, h', _⟩ := ptakeR_t ht1.out (by omega); rw [if_pos h, h']
  have hk1 : k1 ≤ s.size := by
    cases t1
    · obtain ⟨h, h'⟩ := ptakeR_f ht1.out (by omega); omega
    · obtain ⟨h, h', _⟩ := ptakeR_t ht1.out (by omega); omega
  clear ht1
  go_wp2_with fail
  refine (ptake_ex b s k1 op lg 48 _ hp1 hk1 hs).mono ?_
  rintro e w2 ⟨t2, k2, rfl, hb2, hp2, ht2⟩
  have hb12 : But b w w2 := hb1.trans hb2
  clear hb1 hb2 hp1
  go_upto_if 9 with (fail)
  go_cut [] (fun wx => ∃ k3, But b w wx ∧ PS wx b s k3 op lg J ∧ Hid (wholeE s k1 = some k3) ∧ k3 ≤ s.size)
  case first =>
    have HP2 : Hid (PS w2 b s k2 op lg J) := hp2
    clear hp2
    cases t2
    · obtain ⟨h48, rfl⟩ := ptakeR_f ht2.out (by omega)
      have H48 : Hid (gb s k2 ≠ 48) := h48
      clear h48 ht2
      go_wp2_with fail
      refine (pdigits_any b s k2 op lg _ HP2.out hk1 hs).mono ?_
      rintro e w3 ⟨rfl, hb3, hp3⟩
      cases hd : isDig (gb s k2)
      · have HF : Hid (R = (none, k2, (k2 : Int))) := by show _ = _; rw [HR.out]; exact numR_none HK1.out (by rw [wholeE, if_neg H48.out, hd]; rfl)
        rw [hd] at hp3
        simp only [Bool.false_eq_true, if_false] at hp3 ⊢
        rw [errV]
        clear hd
        go_wp2_with fail
        go_ret
        exact ⟨k2, _, rfl, Or.inr ⟨_, _, rfl⟩, Or.inl ⟨by rw [HF.out]; simp only; omega, by rw [HF.out], rfl⟩, hb12.trans hb3, hp3⟩
      · have HWE : Hid (wholeE s k2 = some (runE s k2)) := by show _ = _; rw [wholeE, if_neg H48.out, hd]; rfl
        rw [hd] at hp3
        simp only [if_true] at hp3 ⊢
        clear hd
        go_wp2_with fail
        go_meet
        case rel => exact ⟨runE s k2, hb12.trans hb3, hp3, HWE, runE_size s k2 hk1⟩
    · obtain ⟨h48, rfl, hlt⟩ := ptakeR_t ht2.out (by omega)
      have HWE : Hid (wholeE s k1 = some (k1 + 1)) := by show _ = _; rw [wholeE, if_pos h48]
      clear h48 ht2
      go_wp2_with fail
      go_meet
      case rel => exact ⟨k1 + 1, hb12, HP2.out, HWE, hlt⟩
  case rest =>
    obtain ⟨k3, hb3, hp3, hwe, hk3⟩ := hcut
    clear hp2 ht2 hb12
    go_wp2_with fail
    refine (ptake_ex b s k3 op lg 46 _ hp3 hk3 hs).mono ?_
    rintro e w4 ⟨t4, k4, rfl, hb4, hp4, ht4⟩
    have hb34 : But b w w4 := hb3.trans hb4
    clear hb3 hb4 hp3
    go_upto_if 16 with (fail)
    go_cut [] (fun wx => ∃ k5, But b w wx ∧ PS wx b s k5 op lg J ∧ Hid (∃ pt, partR s k3 = (pt, k5, -1)) ∧ k5 ≤ s.size)
    case first =>
      have HP4 : Hid (PS w4 b s k4 op lg J) := hp4
      clear hp4
      cases t4
      · obtain ⟨h46, rfl⟩ := ptakeR_f ht4.out (by omega)
        have HPR : Hid (∃ pt, partR s k4 = (pt, k4, -1)) := ⟨⟨#[]⟩, by rw [partR, if_neg h46]⟩
        clear h46 ht4
        go_wp2_with fail
        go_meet
        case rel => exact ⟨k4, hb34, HP4.out, HPR, hk3⟩
      · obtain ⟨h46, rfl, hlt⟩ := ptakeR_t ht4.out (by omega)
        have H46 : Hid (gb s k3 = 46) := h46
        clear h46 ht4
        go_wp2_with fail
        refine (pdigits_any b s (k3 + 1) op lg _ HP4.out hlt hs).mono ?_
        rintro e w5 ⟨rfl, hb5, hp5⟩
        cases hd : isDig (gb s (k3 + 1))
        · have HF : Hid (∃ x, R = (some x, k3 + 1, ((k3 + 1 : Nat) : Int))) := by
            show ∃ x, _
            have hpr : partR s k3 = (⟨#[48]⟩, k3 + 1, ((k3 + 1 : Nat) : Int)) := by rw [partR, if_pos H46.out, runX, hd]; rfl
            have hxr : expR s (k3 + 1) ((k3 + 1 : Nat) : Int) = (0, k3 + 1, ((k3 + 1 : Nat) : Int)) := by rw [expR, cv_dead s _ (by omega), if_neg (by omega)]
            exact ⟨_, by rw [HR.out]; exact numR_some HK1.out hwe.out hpr hxr⟩
          rw [hd] at hp5
          simp only [Bool.false_eq_true, if_false] at hp5 ⊢
          rw [errV]
          clear hd
          go_wp2_with fail
          go_ret
          obtain ⟨x, hx⟩ := HF.out
          exact ⟨k3 + 1, _, rfl, Or.inr ⟨_, _, rfl⟩, Or.inl ⟨by rw [hx]; simp only; omega, by rw [hx], rfl⟩, hb34.trans hb5, hp5⟩
        · have HPR : Hid (∃ pt, partR s k3 = (pt, runE s (k3 + 1), -1)) := ⟨_, by rw [partR, if_pos H46.out, runX, hd]; rfl⟩
          rw [hd] at hp5
          simp only [if_true] at hp5 ⊢
          clear hd
          go_wp2_with fail
          go_meet
          case rel => exact ⟨runE s (k3 + 1), hb34.trans hb5, hp5, HPR, runE_size s _ hlt⟩
    case rest =>
      obtain ⟨k5, hb5, hp5, hpr, hk5⟩ := hcut
      clear hp4 ht4 hb34
      have HP5 : Hid (PS wc b s k5 op lg J) := hp5
      clear hp5
      obtain ⟨c, hc⟩ : ∃ c, c = pk s k5 := ⟨_, rfl⟩
      have HC : Hid (pk s k5 = c) := hc.symm
      clear hc
      rcases (show c = 101 ∨ c = 69 ∨ (c ≠ 101 ∧ c ≠ 69) from by omega) with rfl | rfl | ⟨hn1, hn2⟩
      · have hlt5 : k5 < s.size := pk_pos (by rw [HC.out]; omega)
        have HEX : Hid (cv s k5 (-1) = 101 ∨ cv s k5 (-1) = 69) := by show _ ∨ _; rw [cv_good]; exact .inl ((pk_gb (by omega)).1 HC.out)
        go_wp2_with fail
        refine (ptake_yes b s k5 op lg 101 _ HP5.out hk5 hs HC.out).mono ?_
        rintro e w6 ⟨rfl, hb6', hp6⟩
        have hb6 : But b w w6 := hb5.trans hb6'
        have HP6 : Hid (PS w6 b s (k5 + 1) op lg J) := hp6
        clear hp6 hb6' hb5 HP5
        go_wp2_with fail
        refine (ptake_ex b s (k5 + 1) op lg 43 _ HP6.out hlt5 hs).mono ?_
        rintro e w7 ⟨t7, k7, rfl, hb7, hp7, ht7⟩
        have hb57 : But b w w7 := hb6.trans hb7
        have HP7 : Hid (PS w7 b s k7 op lg J) := hp7
        clear hp7 hb7
        cases t7
        · obtain ⟨h43, rfl⟩ := ptakeR_f ht7.out (by omega)
          have H43 : Hid (gb s (k5 + 1) ≠ 43) := h43
          clear h43 ht7
          go_wp2_with fail
          refine (ptake_ex b s (k5 + 1) op lg 45 _ HP7.out hlt5 hs).mono ?_
          rintro e w8 ⟨t8, k8, rfl, hb8, hp8, ht8⟩
          have hb58 : But b w w8 := hb57.trans hb8
          have HKS : Hid (k8 = if gb s (k5 + 1) = 45 ∨ gb s (k5 + 1) = 43 then k5 + 2 else k5 + 1) := by
            show _ = _
            cases t8
            · obtain ⟨h, h'⟩ := ptakeR_f ht8.out (by omega); rw [if_neg (fun hh => hh.elim h H43.out), h']
            · obtain ⟨h, h', _⟩ := ptakeR_t ht8.out (by omega); rw [if_pos (.inl h), h']
          have hk8 : k8 ≤ s.size := by
            cases t8
            · obtain ⟨h, h'⟩ := ptakeR_f ht8.out (by omega); omega
            · obtain ⟨h, h', _⟩ := ptakeR_t ht8.out (by omega); omega
          have HZ := hid_ofn (pexp_end HR.out HK1.out hwe.out hpr.out HEX.out HKS.out hb58 hp8 hk8 hs)
          clear hp8 hb8 ht8
          go_wp2_with fail
          refine Calls.mono HZ.out ?_
          rintro e w9 ⟨k6, v, rfl, hsh, hN, hb9, hp9⟩
          go_wp2_with fail
          go_ret
          exact ⟨k6, v, rfl, hsh, hN, hb9, hp9⟩
        · obtain ⟨h43, rfl, hlt6⟩ := ptakeR_t ht7.out (by omega)
          have HKS : Hid (k5 + 1 + 1 = if gb s (k5 + 1) = 45 ∨ gb s (k5 + 1) = 43 then k5 + 2 else k5 + 1) := by show _ = _; rw [if_pos (.inr h43)]
          have HZ := hid_ofn (pexp_end HR.out HK1.out hwe.out hpr.out HEX.out HKS.out hb57 HP7.out hlt6 hs)
          clear h43 ht7
          go_wp2_with fail
          refine Calls.mono HZ.out ?_
          rintro e w9 ⟨k6, v, rfl, hsh, hN, hb9, hp9⟩
          go_wp2_with fail
          go_ret
          exact ⟨k6, v, rfl, hsh, hN, hb9, hp9⟩
      · have hlt5 : k5 < s.size := pk_pos (by rw [HC.out]; omega)
        have HEX : Hid (cv s k5 (-1) = 101 ∨ cv s k5 (-1) = 69) := by show _ ∨ _; rw [cv_good]; exact .inr ((pk_gb (by omega)).1 HC.out)
        go_wp2_with fail
        refine (ptake_no b s k5 op lg 101 _ HP5.out hk5 hs (by rw [HC.out]; omega)).mono ?_
        rintro e w60 ⟨rfl, hb60, hp60⟩
        go_wp2_with fail
        refine (ptake_yes b s k5 op lg 69 _ hp60 hk5 hs HC.out).mono ?_
        rintro e w6 ⟨rfl, hb6'', hp6⟩
        have hb6' := hb60.trans hb6''
        clear hb60 hb6'' hp60
        have hb6 : But b w w6 := hb5.trans hb6'
        have HP6 : Hid (PS w6 b s (k5 + 1) op lg J) := hp6
        clear hp6 hb6' hb5 HP5
        go_wp2_with fail
        refine (ptake_ex b s (k5 + 1) op lg 43 _ HP6.out hlt5 hs).mono ?_
        rintro e w7 ⟨t7, k7, rfl, hb7, hp7, ht7⟩
        have hb57 : But b w w7 := hb6.trans hb7
        have HP7 : Hid (PS w7 b s k7 op lg J) := hp7
        clear hp7 hb7
        cases t7
        · obtain ⟨h43, rfl⟩ := ptakeR_f ht7.out (by omega)
          have H43 : Hid (gb s (k5 + 1) ≠ 43) := h43
          clear h43 ht7
          go_wp2_with fail
          refine (ptake_ex b s (k5 + 1) op lg 45 _ HP7.out hlt5 hs).mono ?_
          rintro e w8 ⟨t8, k8, rfl, hb8, hp8, ht8⟩
          have hb58 : But b w w8 := hb57.trans hb8
          have HKS : Hid (k8 = if gb s (k5 + 1) = 45 ∨ gb s (k5 + 1) = 43 then k5 + 2 else k5 + 1) := by
            show _ = _
            cases t8
            · obtain ⟨h, h'⟩ := ptakeR_f ht8.out (by omega); rw [if_neg (fun hh => hh.elim h H43.out), h']
            · obtain ⟨h, h', _⟩ := ptakeR_t ht8.out (by omega); rw [if_pos (.inl h), h']
          have hk8 : k8 ≤ s.size := by
            cases t8
            · obtain ⟨h, h'⟩ := ptakeR_f ht8.out (by omega); omega
            · obtain ⟨h, h', _⟩ := ptakeR_t ht8.out (by omega); omega
          have HZ := hid_ofn (pexp_end HR.out HK1.out hwe.out hpr.out HEX.out HKS.out hb58 hp8 hk8 hs)
          clear hp8 hb8 ht8
          go_wp2_with fail
          refine Calls.mono HZ.out ?_
          rintro e w9 ⟨k6, v, rfl, hsh, hN, hb9, hp9⟩
          go_wp2_with fail
          go_ret
          exact ⟨k6, v, rfl, hsh, hN, hb9, hp9⟩
        · obtain ⟨h43, rfl, hlt6⟩ := ptakeR_t ht7.out (by omega)
          have HKS : Hid (k5 + 1 + 1 = if gb s (k5 + 1) = 45 ∨ gb s (k5 + 1) = 43 then k5 + 2 else k5 + 1) := by show _ = _; rw [if_pos (.inr h43)]
          have HZ := hid_ofn (pexp_end HR.out HK1.out hwe.out hpr.out HEX.out HKS.out hb57 HP7.out hlt6 hs)
          clear h43 ht7
          go_wp2_with fail
          refine Calls.mono HZ.out ?_
          rintro e w9 ⟨k6, v, rfl, hsh, hN, hb9, hp9⟩
          go_wp2_with fail
          go_ret
          exact ⟨k6, v, rfl, hsh, hN, hb9, hp9⟩
      · have hxr : Hid (∃ p, expR s k5 (-1) = (p, k5, -1)) := by
          show ∃ p, _
          refine ⟨0, ?_⟩
          rw [expR, cv_good, if_neg]
          rintro (h | h)
          · exact hn1 (by rw [← HC.out]; exact (pk_gb (by omega)).2 h)
          · exact hn2 (by rw [← HC.out]; exact (pk_gb (by omega)).2 h)
        go_wp2_with fail
        refine (ptake_no b s k5 op lg 101 _ HP5.out hk5 hs (by rw [HC.out]; exact hn1)).mono ?_
        rintro e w60 ⟨rfl, hb60, hp60⟩
        go_wp2_with fail
        refine (ptake_no b s k5 op lg 69 _ hp60 hk5 hs (by rw [HC.out]; exact hn2)).mono ?_
        rintro e w6 ⟨rfl, hb6', hpE⟩
        have hbE : But b w w6 := (hb5.trans hb60).trans hb6'
        clear hb6' hb5 HP5 hp60 hb60
        have HN : Hid (NumlIs J s k R k5 (.returned .nilIface)) := by
          obtain ⟨pt, hpt⟩ := hpr.out
          obtain ⟨pw, hpw⟩ := hxr.out
          exact Or.inr ⟨rfl, k1, k3, pt, k5, pw, HK1.out, hwe.out, hpt, hpw⟩
        go_wp2_with fail
        go_ret
        exact ⟨k5, _, rfl, Or.inl rfl, HN, hbE, hpE⟩

def numC : List UInt8 := [48, 49, 50, 51, 52, 53, 54, 55, 56, 57, 43, 45, 46, 101, 69]
set_option maxRecDepth 100000 in
theorem num_idx_fin : ∀ c : Fin 256, decide (0 ≤ Lib.indexByte numC ((c.val : Int).toNat.toUInt8)) = isNumB (c.val : Int) := by decide
theorem isNumB_pk (s : ByteArray) (k : Nat) : isNumB (pk s k) = isNumB (gb s k) := by
  rcases pk_eq (s := s) (k := k) with ⟨h, _⟩ | ⟨h1, h2⟩
  · rw [h]
  · rw [h1, h2]; rfl
/-- Whether a byte is one that numbers are made of: IndexByte. -/
theorem num_idx (s : ByteArray) (k : Nat) (w : World) : Calls Tryz.prog 43 #[.string ⟨#[48, 49, 50, 51, 52, 53, 54, 55, 56, 57, 43, 45, 46, 101, 69]⟩, .int .u8 (pk s k)] w fun e w' => ∃ i, e = .returned (.int .i64 i) ∧ w = w' ∧ decide (0 ≤ i) = isNumB (gb s k) := by
  refine (Tryz.strings_IndexByte _ _ w).mono ?_
  rintro e w' ⟨rfl, rfl⟩
  have hb := pk_bd s k
  refine ⟨_, rfl, rfl, ?_⟩
  have := num_idx_fin ⟨(pk s k).toNat, by omega⟩
  rw [← isNumB_pk]
  rw [show (((pk s k).toNat : Nat) : Int) = pk s k from by omega] at this
  exact this

set_option maxHeartbeats 8000000 in
theorem pnumber_any (b : Nat) (s : ByteArray) (k : Nat) (op : Int) (lg : Bool) (w : World) {J : Addr} (hp : PS w b s k op lg J) (hE : Env w) (h12 : 16 ≤ b) (hk : k ≤ s.size) (hs : s.size ≤ 1000) :
    Calls Tryz.prog 24 #[.pointer (some ⟨b, 0, none⟩)] w fun e w' => ∃ lg', Hid (NumIs J (numQ s k) (decide (gb s k = 45)) lg e lg') ∧ But b w w' ∧ PS w' b s (numQ s k).2.1 op lg' J := by
  have HQ := hid_ofn (pnumeral_any b s k op lg w hp hk hs)
  have HE : Hid (Env w) := hE
  obtain ⟨R, hR⟩ : ∃ R, R = numR s k := ⟨_, rfl⟩
  rw [← hR] at HQ
  have HR : Hid (R = numR s k) := hR
  obtain ⟨ng, hng⟩ : ∃ ng, ng = decide (gb s k = 45) := ⟨_, rfl⟩
  have HNG : Hid (ng = decide (gb s k = 45)) := hng
  obtain ⟨Q, hQ⟩ : ∃ Q, Q = numQ s k := ⟨_, rfl⟩
  have HQE : Hid (Q = numQ s k) := hQ
  rw [← hQ, ← hng]
  obtain ⟨g0, g1, g2, g3, hf⟩ := pcells hp.1
  clear hp hE hR hng hQ g0 g2 g3 hf
  go_enter Tryz.func24, Tryz.ntmps24
  go_wp2_with fail
  refine Calls.mono HQ.out ?_
  rintro e w6 ⟨k6, v, rfl, hsh, hN, hbE, hpE⟩
  rcases hN.out with ⟨h1, h2, h3⟩ | ⟨h1, k1, k3, pt, k5, pw, hk1, hwe, hpt, hpw⟩
  · injection h3 with h3
    subst h3
    have H12 : Hid (0 ≤ Q.2.2 ∧ Q.2.1 = k6) := by rw [HQE.out, numQ_err (by rw [← HR.out]; exact h1), ← HR.out]; exact ⟨h1, h2⟩
    clear h1 h2 hsh hN
    rw [errV]
    go_wp2_with fail
    go_ret2
    exact ⟨lg, .inl ⟨H12.out.1, rfl, by rw [H12.out.2]; rfl⟩, hbE, by rw [H12.out.2]; exact hpE⟩
  · injection h1 with h1
    subst h1
    clear hsh hN
    obtain ⟨wh, fr, dot, ex, ec, sg, el, n1, n2, n3, n4, n5, n6, n7, n8, n9, n10, n11, n12⟩ := numeral hs hk1 hwe hpt hpw
    obtain ⟨X, hX⟩ : ∃ X, X = exactR ((s.extract k1 k3).data.toList ++ pt.data.toList) (((k3 - k1 : Nat) : Int) + pw) := ⟨_, rfl⟩
    have hRX : numR s k = (some X, k6, -1) := by rw [hX]; exact numR_some hk1 hwe hpt hpw
    have HFB : Hid (isNumB (gb s k6) = true → Q = (some X, k6, (k6 : Int))) := fun h => by rw [HQE.out]; exact numQ_bad hRX h
    have HFG : Hid (isNumB (gb s k6) = false → Q = (some X, k6, -1)) := fun h => by rw [HQE.out]; exact numQ_good hRX h
    obtain ⟨nv, ok, hxv, hxo⟩ : ∃ nv ok, exactPV ng X = .tuple #[.int .i64 nv, .bool ok] ∧ ok = X.isSome ∧ nv = (if ng then -(X.getD 0) else X.getD 0) := by
      cases X
      · exact ⟨0, false, rfl, rfl, by cases ng <;> rfl⟩
      · exact ⟨_, true, rfl, rfl, rfl⟩
    have HXO : Hid (ok = X.isSome ∧ nv = (if ng then -(X.getD 0) else X.getD 0)) := hxo
    have HXQ : Hid (∀ W, Env W → Calls Tryz.prog 44 #[.string (s.extract k k6)] W fun e w' => e = .returned (.tuple #[.int .i64 nv, .bool ok]) ∧ Below W.heap.size W w') := by
      intro W hW
      rw [← hxv, n1, hX, ← n12, HNG.out]
      exact pexact_any _ wh fr dot ex ec sg el W hW n2 n3 n4 n5 n6 n7 n8 n9
    have b1 : (k : Int) ≤ (k6 : Int) := by omega
    have b2 : (k6 : Int) ≤ (s.size : Int) := by omega
    have HK6 : Hid (k6 ≤ s.size) := n11
    obtain ⟨y0, y1, y2, y3, yf⟩ := pcells hpE.1
    have HPE : Hid (PS w6 b s k6 op lg J) := hpE
    have HEE : Hid (Env w6) := HE.out.but hbE h12
    clear hpt hpw n1 n2 n3 n4 n5 n6 n7 n8 n9 n11 n12 hX hRX hxv hxo hpE y2 y3 hwe hk1
    go_wp2_with fail
    refine (peek_any b s k6 op lg _ HPE.out HK6.out hs).mono ?_
    rintro e w7 ⟨rfl, n7, rfl⟩
    obtain ⟨pc, hpc⟩ : ∃ pc, pc = pk s k6 := ⟨_, rfl⟩
    have HIX : Hid (∀ W, Calls Tryz.prog 43 #[.string ⟨#[48, 49, 50, 51, 52, 53, 54, 55, 56, 57, 43, 45, 46, 101, 69]⟩, .int .u8 pc] W fun e w' => ∃ i, e = .returned (.int .i64 i) ∧ W = w' ∧ decide (0 ≤ i) = isNumB (gb s k6)) := fun W => by rw [hpc]; exact num_idx s k6 W
    rw [← hpc]
    clear hpc
    go_wp2_with fail
    refine (HIX.out _).mono ?_
    rintro e w8 ⟨i, rfl, rfl, hi⟩
    cases hq : isNumB (gb s k6)
    · rw [hq] at hi
      have HF : Hid (Q = (some X, k6, -1)) := HFG.out hq
      have hi0 : ¬ 0 ≤ i := of_decide_eq_false hi
      clear hi hq
      go_wp2_with fail
      go_region_with (go_at_call 44; (refine (HXQ.out _ (HEE.out.drewN _)).mono ?_; rintro e wz ⟨rfl, hbz⟩))
      all_goals
        have hPz : PS wz b s k6 op lg J := PS.below (HPE.out.drewN _) hbz
        have hBz : But b w wz := (hbE.drewN _).of_below hbz
        have HPz : Hid (PS wz b s k6 op lg J) := hPz
        obtain ⟨z0, z1, z2, z3, zf⟩ := pcells hPz.1
        clear hPz hbz z0 z1 z2
        cases ok
        · go_wp2_with fail
          go_ret2
          have hXn : X = none := none_of_some HXO.out.1
          refine ⟨true, .inr ⟨by rw [HF.out]; simp only; omega, by rw [HF.out, hXn]; rfl, X, by rw [HF.out], ?_⟩, hBz.setCell _ _, by rw [HF.out]; exact HPz.out.large true⟩
          rw [← HXO.out.2]; rfl
        · go_wp2_with fail
          go_ret2
          have hXs : numLg lg (some X) = lg := numLg_some HXO.out.1
          refine ⟨lg, .inr ⟨by rw [HF.out]; simp only; omega, by rw [HF.out]; exact hXs.symm, X, by rw [HF.out], ?_⟩, hBz, by rw [HF.out]; exact HPz.out⟩
          rw [← HXO.out.2]; rfl
    · rw [hq] at hi
      have HF : Hid (Q = (some X, k6, (k6 : Int))) := HFB.out hq
      have hi0 : 0 ≤ i := of_decide_eq_true hi
      clear hi hq
      go_wp2_with fail
      refine (wrong_any b s k6 op lg _ (HPE.out.drewN _)).mono ?_
      rintro e w9 ⟨rfl, n9, rfl⟩
      rw [errV]
      go_wp2_with fail
      go_ret2
      refine ⟨lg, .inl ⟨by rw [HF.out]; simp only; omega, rfl, by rw [HF.out]; rfl⟩, hbE.drewN _, by rw [HF.out]; exact HPE.out.drewN _⟩

end Go.Proofs.YtjaoocincdoaaaaGreatDoor

namespace Go.Proofs.YtjaoocincdoaaaaGreatDoor
open Go.RowKit J

set_option linter.unusedVariables false

/-- 'key' as a function of the place: the key, the place behind, what is wrong. -/
def keyR (s : ByteArray) (k : Nat) : ByteArray × Nat × Int :=
  if gb s k ≠ 34 then (⟨#[]⟩, k, k)
  else if 0 ≤ (textR s k).2.2 then (⟨#[]⟩, (textR s k).2)
  else if gb s (skip s (textR s k).2.1) ≠ 58 then (⟨#[]⟩, skip s (textR s k).2.1, ((skip s (textR s k).2.1 : Nat) : Int))
  else (⟨(textR s k).1.toArray⟩, skip s (skip s (textR s k).2.1 + 1), -1)

set_option maxHeartbeats 2000000 in
theorem key_any (b : Nat) (s : ByteArray) (k : Nat) (op : Int) (lg : Bool) (w : World) {J : Addr} (hp : PS w b s k op lg J) (hT : Tabs w) (h12 : 16 ≤ b) (hk : k ≤ s.size) (hs : s.size ≤ 1000) :
    Calls Tryz.prog 61 #[.pointer (some ⟨b, 0, none⟩)] w fun e w' => e = .returned (.tuple #[.string (keyR s k).1, werr J (keyR s k).2]) ∧ But b w w' ∧ PS w' b s (keyR s k).2.1 op lg J := by
  have HP : Hid (PS w b s k op lg J) := hp
  have HT : Hid (Tabs w) := hT
  have hcb := pk_bd s k
  obtain ⟨R, hR⟩ : ∃ R, R = keyR s k := ⟨_, rfl⟩
  have HR : Hid (R = keyR s k) := hR
  rw [← hR]
  clear hp hT hR
  by_cases h34 : pk s k = 34
  · have HC : Hid (pk s k = 34) := h34
    have HG : Hid (gb s k = 34) := (pk_gb (by omega)).1 h34
    obtain ⟨t, kt, bt, hTR⟩ : ∃ t kt bt, textR s k = (t, kt, bt) := ⟨_, _, _, rfl⟩
    have HTR : Hid (textR s k = (t, kt, bt)) := hTR
    have HTL : Hid (bt < 0 → kt ≤ s.size) := fun h => by have := textR_le (s := s) (k := k) hk (by rw [hTR]; exact h); rw [hTR] at this; exact this
    clear h34 hcb hTR
    by_cases hbt : 0 ≤ bt
    · have HF : Hid (R = (⟨#[]⟩, kt, bt)) := by show _ = _; rw [HR.out, keyR, if_neg (by rw [HG.out]; simp), HTR.out]; simp only; rw [if_pos hbt]
      go_enter Tryz.func61, Tryz.ntmps61
      go_wp2_with fail
      refine (peek_any b s k op lg _ HP.out hk hs).mono ?_
      rintro e w1 ⟨rfl, n1, rfl⟩
      rw [HC.out]
      go_wp2_with fail
      refine (quoted_any b s k op lg _ (HP.out.drewN _) HT.out h12 hs HG.out).mono ?_
      rintro e w2 ⟨rfl, hb2, hp2⟩
      rw [HTR.out] at hp2
      rw [HTR.out, werr, if_neg (by simp only; omega), errV]
      go_wp2_with fail
      go_ret2
      refine ⟨?_, ((But.refl _ _).drewN _).trans hb2, by rw [HF.out]; exact hp2⟩
      rw [HF.out, werr, if_neg (by simp only; omega)]; rfl
    · have hkt : kt ≤ s.size := HTL.out (by omega)
      have hsk := skip_size s kt hkt
      have HF0 : Hid (R = if gb s (skip s kt) ≠ 58 then (⟨#[]⟩, skip s kt, ((skip s kt : Nat) : Int)) else (⟨t.toArray⟩, skip s (skip s kt + 1), -1)) := by
        show _ = _; rw [HR.out, keyR, if_neg (by rw [HG.out]; simp), HTR.out]; simp only; rw [if_neg hbt]
      by_cases h58 : pk s (skip s kt) = 58
      · have hg58 : gb s (skip s kt) = 58 := (pk_gb (by omega)).1 h58
        have hlt := lt_of_gb (s := s) (k := skip s kt) (by omega)
        have HF : Hid (R = (⟨t.toArray⟩, skip s (skip s kt + 1), -1)) := by show _ = _; rw [HF0.out, if_neg (by rw [hg58]; simp)]
        have H58 : Hid (pk s (skip s kt) = 58) := h58
        clear h58 hg58 HF0
        go_enter Tryz.func61, Tryz.ntmps61
        go_wp2_with fail
        refine (peek_any b s k op lg _ HP.out hk hs).mono ?_
        rintro e w1 ⟨rfl, n1, rfl⟩
        rw [HC.out]
        go_wp2_with fail
        refine (quoted_any b s k op lg _ (HP.out.drewN _) HT.out h12 hs HG.out).mono ?_
        rintro e w2 ⟨rfl, hb2, hp2⟩
        rw [HTR.out] at hp2
        rw [HTR.out, werr, if_pos (by simp only; omega)]
        go_wp2_with fail
        refine (pblanks_any b s kt op lg _ hp2 hkt hs).mono ?_
        rintro e w3 ⟨rfl, hb3, hp3⟩
        go_wp2_with fail
        refine (ptake_yes b s (skip s kt) op lg 58 _ hp3 hsk hs H58.out).mono ?_
        rintro e w4 ⟨rfl, hb4, hp4⟩
        go_wp2_with fail
        refine (pblanks_any b s (skip s kt + 1) op lg _ hp4 hlt hs).mono ?_
        rintro e w5 ⟨rfl, hb5, hp5⟩
        go_wp2_with fail
        go_ret2
        refine ⟨?_, ((((But.refl _ _).drewN _).trans hb2).trans hb3).trans (hb4.trans hb5), by rw [HF.out]; exact hp5⟩
        rw [HF.out, werr, if_pos (by simp only; omega)]; rfl
      · have HF : Hid (R = (⟨#[]⟩, skip s kt, ((skip s kt : Nat) : Int))) := by show _ = _; rw [HF0.out, if_pos (fun h => h58 ((pk_gb (by omega)).2 h))]
        have H58 : Hid (pk s (skip s kt) ≠ 58) := h58
        clear h58 HF0
        go_enter Tryz.func61, Tryz.ntmps61
        go_wp2_with fail
        refine (peek_any b s k op lg _ HP.out hk hs).mono ?_
        rintro e w1 ⟨rfl, n1, rfl⟩
        rw [HC.out]
        go_wp2_with fail
        refine (quoted_any b s k op lg _ (HP.out.drewN _) HT.out h12 hs HG.out).mono ?_
        rintro e w2 ⟨rfl, hb2, hp2⟩
        rw [HTR.out] at hp2
        rw [HTR.out, werr, if_pos (by simp only; omega)]
        go_wp2_with fail
        refine (pblanks_any b s kt op lg _ hp2 hkt hs).mono ?_
        rintro e w3 ⟨rfl, hb3, hp3⟩
        go_wp2_with fail
        refine (ptake_no b s (skip s kt) op lg 58 _ hp3 hsk hs H58.out).mono ?_
        rintro e w4 ⟨rfl, hb4, hp4⟩
        go_wp2_with fail
        refine (wrong_any b s (skip s kt) op lg _ hp4).mono ?_
        rintro e w5 ⟨rfl, n5, rfl⟩
        go_wp2_with fail
        go_ret2
        refine ⟨?_, (((((But.refl _ _).drewN _).trans hb2).trans hb3).trans hb4).drewN _, by rw [HF.out]; exact hp4.drewN _⟩
        rw [HF.out, werr, if_neg (by simp only; omega)]; rfl
  · have HF : Hid (R = (⟨#[]⟩, k, (k : Int))) := by show _ = _; rw [HR.out, keyR, if_pos (fun h => h34 ((pk_gb (by omega)).2 h))]
    have hne : (pk s k != 34) = true := by rw [bne_iff_ne]; exact h34
    clear h34
    go_enter Tryz.func61, Tryz.ntmps61
    go_wp2_with fail
    refine (peek_any b s k op lg _ HP.out hk hs).mono ?_
    rintro e w1 ⟨rfl, n1, rfl⟩
    go_wp2_with fail
    refine (wrong_any b s k op lg _ (HP.out.drewN _)).mono ?_
    rintro e w2 ⟨rfl, n2, rfl⟩
    go_wp2_with fail
    go_ret2
    refine ⟨?_, (But.refl _ _).drewN _, by rw [HF.out]; exact HP.out.drewN _⟩
    rw [HF.out, werr, if_neg (by simp only; omega)]; rfl

end Go.Proofs.YtjaoocincdoaaaaGreatDoor

namespace Go.Proofs.YtjaoocincdoaaaaGreatDoor
open Go.RowKit J

set_option linter.unusedVariables false

/-- The bytes that have a short escape. -/
def escL : List UInt8 := [34, 92, 8, 12, 10, 13, 9]

theorem idx_not {c : UInt8} (h : c ≠ 34 ∧ c ≠ 92 ∧ c ≠ 8 ∧ c ≠ 12 ∧ c ≠ 10 ∧ c ≠ 13 ∧ c ≠ 9) : Lib.indexByte escL c = -1 := by
  obtain ⟨h1, h2, h3, h4, h5, h6, h7⟩ := h
  have e : ∀ a b : UInt8, a ≠ b → (b == a) = false := fun a b h => by rw [beq_eq_false_iff_ne]; exact fun e => h e.symm
  simp [Lib.indexByte, escL, e _ _ h1, e _ _ h2, e _ _ h3, e _ _ h4, e _ _ h5, e _ _ h6, e _ _ h7]

theorem idxb (s : ByteArray) (c : Int) (u : UInt8) (i : Int) (w : World) (hu : c = (u.toNat : Int)) (hi : Lib.indexByte s.data.toList u = i) :
    Calls Tryz.prog 43 #[.string s, .int .u8 c] w fun e w' => e = .returned (.int .i64 i) ∧ w = w' := by
  refine (Tryz.strings_IndexByte s c w).mono ?_
  rintro e w' ⟨rfl, rfl⟩
  subst hu
  rw [show ((u.toNat : Int)).toNat.toUInt8 = u by simp, hi]
  exact ⟨rfl, rfl⟩

theorem and15 (n : Nat) (h : n < 32) : bits BinOp.and IntKind.u8 (n : Int) 15 = ((n % 16 : Nat) : Int) := by
  have : ∀ m : Fin 32, bits BinOp.and IntKind.u8 (m.val : Int) 15 = ((m.val % 16 : Nat) : Int) := by decide
  exact this ⟨n, h⟩

theorem u8_back (c : UInt8) : ((c.toNat : Int)).toNat.toUInt8 = c := by simp

set_option maxRecDepth 100000 in
theorem hid_of0 {p : Prop} (h : p) : Hid p := h

/-- Blocks that are no rows of bytes stand. -/
theorem ob_kept {w W w' : World} {N : Nat} {out : Value} {l : List UInt8} (hO : Lib.OthersKept 5 none w W) (hown : OB W N out l) (hgr : W.grownBy w' out.ownBlock) : Lib.OthersKept 5 none w w' := by
  refine hO.grown hgr (fun g hg => ?_)
  rcases hown.2 with ⟨h, _⟩ | ⟨g', cap, cur, rfl, _, hh, _⟩
  · rw [h] at hg; simp [Value.ownBlock] at hg
  · simp [Value.ownBlock] at hg; subst hg; exact ⟨cur, _, hh⟩

set_option maxHeartbeats 4000000 in
theorem appendByte_any (c : UInt8) (w : World) (N : Nat) (out : Value) (l : List UInt8) (hN : N ≤ w.heap.size) (hown : OB w N out l) (hlen : l.length ≤ 900000) :
    Calls Tryz.prog 51 #[out, .int .u8 (c.toNat : Int)] w fun e w' => ∃ out', e = .returned out' ∧ OB w' N out' (l ++ qb c) ∧ Below N w w' ∧ N ≤ w'.heap.size ∧ Lib.OthersKept 5 none w w' := by
  rcases q_cases c with rfl | rfl | rfl | rfl | rfl | rfl | rfl | hn
  · have HI : Hid (Lib.indexByte escL (34 : UInt8) = 0) := by show _ = _; decide
    go_enter Tryz.func51, Tryz.ntmps51
    go_wp2_with fail
    refine (idxb _ _ 34 0 w rfl HI.out).mono ?_
    rintro e w1 ⟨rfl, rfl⟩
    go_wp2_with (at_builtin; refine app_bytes rfl (.tmp 10) (.tmp 13) rfl N out l rfl ?h1 _ _ _ [92, 34] rfl rfl ?h2 ?h3 ?h4 ?_)
    case h1 => exact hown.alloc _
    case h2 => exact two_new rfl _ _ _ rfl rfl
    case h3 => simp; omega
    case h4 => simp; omega
    intro v' w4 hown4 hgr
    have hK : Lib.OthersKept 5 none w w4 := ob_kept ((Lib.OthersKept.refl _ _ w).alloc _) (hown.alloc _) hgr
    have hB : Below N w w4 := ((Below.refl N w).alloc hN _).grown hgr (by simp; omega) hown.below
    have hsz4 : N ≤ w4.heap.size := by have := hgr.size; simp at this; omega
    clear hgr
    go_wp2
    go_ret
    exact ⟨v', rfl, hown4, hB, hsz4, hK⟩
  · have HI : Hid (Lib.indexByte escL (92 : UInt8) = 1) := by show _ = _; decide
    go_enter Tryz.func51, Tryz.ntmps51
    go_wp2_with fail
    refine (idxb _ _ 92 1 w rfl HI.out).mono ?_
    rintro e w1 ⟨rfl, rfl⟩
    go_wp2_with (at_builtin; refine app_bytes rfl (.tmp 10) (.tmp 13) rfl N out l rfl ?h1 _ _ _ [92, 92] rfl rfl ?h2 ?h3 ?h4 ?_)
    case h1 => exact hown.alloc _
    case h2 => exact two_new rfl _ _ _ rfl rfl
    case h3 => simp; omega
    case h4 => simp; omega
    intro v' w4 hown4 hgr
    have hK : Lib.OthersKept 5 none w w4 := ob_kept ((Lib.OthersKept.refl _ _ w).alloc _) (hown.alloc _) hgr
    have hB : Below N w w4 := ((Below.refl N w).alloc hN _).grown hgr (by simp; omega) hown.below
    have hsz4 : N ≤ w4.heap.size := by have := hgr.size; simp at this; omega
    clear hgr
    go_wp2
    go_ret
    exact ⟨v', rfl, hown4, hB, hsz4, hK⟩
  · have HI : Hid (Lib.indexByte escL (8 : UInt8) = 2) := by show _ = _; decide
    go_enter Tryz.func51, Tryz.ntmps51
    go_wp2_with fail
    refine (idxb _ _ 8 2 w rfl HI.out).mono ?_
    rintro e w1 ⟨rfl, rfl⟩
    go_wp2_with (at_builtin; refine app_bytes rfl (.tmp 10) (.tmp 13) rfl N out l rfl ?h1 _ _ _ [92, 98] rfl rfl ?h2 ?h3 ?h4 ?_)
    case h1 => exact hown.alloc _
    case h2 => exact two_new rfl _ _ _ rfl rfl
    case h3 => simp; omega
    case h4 => simp; omega
    intro v' w4 hown4 hgr
    have hK : Lib.OthersKept 5 none w w4 := ob_kept ((Lib.OthersKept.refl _ _ w).alloc _) (hown.alloc _) hgr
    have hB : Below N w w4 := ((Below.refl N w).alloc hN _).grown hgr (by simp; omega) hown.below
    have hsz4 : N ≤ w4.heap.size := by have := hgr.size; simp at this; omega
    clear hgr
    go_wp2
    go_ret
    exact ⟨v', rfl, hown4, hB, hsz4, hK⟩
  · have HI : Hid (Lib.indexByte escL (12 : UInt8) = 3) := by show _ = _; decide
    go_enter Tryz.func51, Tryz.ntmps51
    go_wp2_with fail
    refine (idxb _ _ 12 3 w rfl HI.out).mono ?_
    rintro e w1 ⟨rfl, rfl⟩
    go_wp2_with (at_builtin; refine app_bytes rfl (.tmp 10) (.tmp 13) rfl N out l rfl ?h1 _ _ _ [92, 102] rfl rfl ?h2 ?h3 ?h4 ?_)
    case h1 => exact hown.alloc _
    case h2 => exact two_new rfl _ _ _ rfl rfl
    case h3 => simp; omega
    case h4 => simp; omega
    intro v' w4 hown4 hgr
    have hK : Lib.OthersKept 5 none w w4 := ob_kept ((Lib.OthersKept.refl _ _ w).alloc _) (hown.alloc _) hgr
    have hB : Below N w w4 := ((Below.refl N w).alloc hN _).grown hgr (by simp; omega) hown.below
    have hsz4 : N ≤ w4.heap.size := by have := hgr.size; simp at this; omega
    clear hgr
    go_wp2
    go_ret
    exact ⟨v', rfl, hown4, hB, hsz4, hK⟩
  · have HI : Hid (Lib.indexByte escL (10 : UInt8) = 4) := by show _ = _; decide
    go_enter Tryz.func51, Tryz.ntmps51
    go_wp2_with fail
    refine (idxb _ _ 10 4 w rfl HI.out).mono ?_
    rintro e w1 ⟨rfl, rfl⟩
    go_wp2_with (at_builtin; refine app_bytes rfl (.tmp 10) (.tmp 13) rfl N out l rfl ?h1 _ _ _ [92, 110] rfl rfl ?h2 ?h3 ?h4 ?_)
    case h1 => exact hown.alloc _
    case h2 => exact two_new rfl _ _ _ rfl rfl
    case h3 => simp; omega
    case h4 => simp; omega
    intro v' w4 hown4 hgr
    have hK : Lib.OthersKept 5 none w w4 := ob_kept ((Lib.OthersKept.refl _ _ w).alloc _) (hown.alloc _) hgr
    have hB : Below N w w4 := ((Below.refl N w).alloc hN _).grown hgr (by simp; omega) hown.below
    have hsz4 : N ≤ w4.heap.size := by have := hgr.size; simp at this; omega
    clear hgr
    go_wp2
    go_ret
    exact ⟨v', rfl, hown4, hB, hsz4, hK⟩
  · have HI : Hid (Lib.indexByte escL (13 : UInt8) = 5) := by show _ = _; decide
    go_enter Tryz.func51, Tryz.ntmps51
    go_wp2_with fail
    refine (idxb _ _ 13 5 w rfl HI.out).mono ?_
    rintro e w1 ⟨rfl, rfl⟩
    go_wp2_with (at_builtin; refine app_bytes rfl (.tmp 10) (.tmp 13) rfl N out l rfl ?h1 _ _ _ [92, 114] rfl rfl ?h2 ?h3 ?h4 ?_)
    case h1 => exact hown.alloc _
    case h2 => exact two_new rfl _ _ _ rfl rfl
    case h3 => simp; omega
    case h4 => simp; omega
    intro v' w4 hown4 hgr
    have hK : Lib.OthersKept 5 none w w4 := ob_kept ((Lib.OthersKept.refl _ _ w).alloc _) (hown.alloc _) hgr
    have hB : Below N w w4 := ((Below.refl N w).alloc hN _).grown hgr (by simp; omega) hown.below
    have hsz4 : N ≤ w4.heap.size := by have := hgr.size; simp at this; omega
    clear hgr
    go_wp2
    go_ret
    exact ⟨v', rfl, hown4, hB, hsz4, hK⟩
  · have HI : Hid (Lib.indexByte escL (9 : UInt8) = 6) := by show _ = _; decide
    go_enter Tryz.func51, Tryz.ntmps51
    go_wp2_with fail
    refine (idxb _ _ 9 6 w rfl HI.out).mono ?_
    rintro e w1 ⟨rfl, rfl⟩
    go_wp2_with (at_builtin; refine app_bytes rfl (.tmp 10) (.tmp 13) rfl N out l rfl ?h1 _ _ _ [92, 116] rfl rfl ?h2 ?h3 ?h4 ?_)
    case h1 => exact hown.alloc _
    case h2 => exact two_new rfl _ _ _ rfl rfl
    case h3 => simp; omega
    case h4 => simp; omega
    intro v' w4 hown4 hgr
    have hK : Lib.OthersKept 5 none w w4 := ob_kept ((Lib.OthersKept.refl _ _ w).alloc _) (hown.alloc _) hgr
    have hB : Below N w w4 := ((Below.refl N w).alloc hN _).grown hgr (by simp; omega) hown.below
    have hsz4 : N ≤ w4.heap.size := by have := hgr.size; simp at this; omega
    clear hgr
    go_wp2
    go_ret
    exact ⟨v', rfl, hown4, hB, hsz4, hK⟩
  · have HI : Hid (Lib.indexByte escL c = -1) := idx_not hn
    have HQ := qb_else hn
    have hc255 := c.toNat_lt
    clear hn
    by_cases h32 : c.toNat < 32
    · rw [if_pos h32] at HQ
      obtain ⟨q1, hq1⟩ : ∃ q1 : Nat, q1 = c.toNat / 16 := ⟨_, rfl⟩
      obtain ⟨q2, hq2⟩ : ∃ q2 : Nat, q2 = c.toNat % 16 := ⟨_, rfl⟩
      rw [← hq1, ← hq2] at HQ
      have HQ2 : Hid (qb c = [92, 117, 48, 48, hxc q1, hxc q2]) := HQ
      have hq1' : (q1 : Int) < 16 := by omega
      have hq2' : (q2 : Int) < 16 := by omega
      have h32' : (c.toNat : Int) < 32 := by omega
      have hw1 : (c.toNat : Int) / 16 = (q1 : Int) := by omega
      have hw2 : bits BinOp.and IntKind.u8 (c.toNat : Int) 15 = (q2 : Int) := by rw [hq2]; exact and15 c.toNat h32
      clear HQ hq1 hq2 h32
      go_enter Tryz.func51, Tryz.ntmps51
      go_wp2_with fail
      refine (idxb _ _ c (-1) w rfl HI.out).mono ?_
      rintro e w1 ⟨rfl, rfl⟩
      go_wp2
      go_region_law (refine step_app_bytes rfl _ _ rfl N out l (by rfl) (by exact hown.alloc _) ⟨w.heap.size, 0, none⟩ _ _ [92, 117, 48, 48, hxc q1, hxc q2] (by rfl) (by rfl) (by exact six_new w q1 q2 (by omega) (by omega) _ _) (by simp; omega) (by simp; omega) ?_; intro v' w4 hown4 hgr)
      all_goals
        rw [← HQ2.out] at hown4
        have hK : Lib.OthersKept 5 none w w4 := ob_kept (((Lib.OthersKept.refl _ _ w).alloc _).drew) (hown.alloc _) hgr
        have hB : Below N w w4 := (((Below.refl N w).alloc hN _).drew).grown hgr (by simp; omega) hown.below
        have hsz4 : N ≤ w4.heap.size := by have := hgr.size; simp at this; omega
        clear hgr
        go_wp2
        go_ret
        exact ⟨v', rfl, hown4, hB, hsz4, hK⟩
    · rw [if_neg h32] at HQ
      have HQ2 : Hid (qb c = [c]) := HQ
      have h32' : ¬ (c.toNat : Int) < 32 := by omega
      clear HQ h32
      go_enter Tryz.func51, Tryz.ntmps51
      go_wp2_with fail
      refine (idxb _ _ c (-1) w rfl HI.out).mono ?_
      rintro e w1 ⟨rfl, rfl⟩
      go_wp2_with (at_builtin; refine app_bytes rfl (.tmp 26) (.tmp 28) rfl N out l rfl ?h1 _ _ _ [c] rfl rfl ?h2 ?h3 ?h4 ?_)
      case h1 => exact hown.alloc _
      case h2 => exact one_new rfl _ _ rfl
      case h3 => simp; omega
      case h4 => simp; omega
      intro v' w4 hown4 hgr
      rw [← HQ2.out] at hown4
      have hK : Lib.OthersKept 5 none w w4 := ob_kept ((Lib.OthersKept.refl _ _ w).alloc _) (hown.alloc _) hgr
      have hB : Below N w w4 := ((Below.refl N w).alloc hN _).grown hgr (by simp; omega) hown.below
      have hsz4 : N ≤ w4.heap.size := by have := hgr.size; simp at this; omega
      clear hgr
      go_wp2
      go_ret
      exact ⟨v', rfl, hown4, hB, hsz4, hK⟩

set_option maxHeartbeats 4000000 in
theorem appendString_any (s : ByteArray) (w : World) (N : Nat) (out : Value) (l : List UInt8) (hN : N ≤ w.heap.size) (hown : OB w N out l) (hs : s.size ≤ 100000) (hlen : l.length + (quoteB s.data.toList).length ≤ 900000) :
    Calls Tryz.prog 33 #[out, .string s] w fun e w' => ∃ out', e = .returned out' ∧ OB w' N out' (l ++ quoteB s.data.toList) ∧ Below N w w' ∧ N ≤ w'.heap.size ∧ Lib.OthersKept 5 none w w' := by
  have hll : l.length ≤ 899998 := by simp [quoteB] at hlen; omega
  have HLEN : Hid (l.length + (quoteB s.data.toList).length ≤ 900000) := hlen
  clear hlen
  go_enter Tryz.func33, Tryz.ntmps33
  go_wp2_with (at_builtin; refine app_bytes rfl (.tmp 6) (.tmp 7) rfl N out l rfl ?h1 _ _ _ [34] rfl rfl ?h2 ?h3 ?h4 ?_)
  case h1 => exact hown.alloc _
  case h2 => exact one_new rfl _ _ rfl
  case h3 => simp; omega
  case h4 => simp; omega
  intro v1 w1 hown1 hgr1
  have hK1 : Lib.OthersKept 5 none w w1 := ob_kept ((Lib.OthersKept.refl _ _ w).alloc _) (hown.alloc _) hgr1
  have hbel1 : Below N w w1 := ((Below.refl N w).alloc hN _).grown hgr1 (by simp; omega) hown.below
  have hsz1 : N ≤ w1.heap.size := by have := hgr1.size; simp at this; omega
  clear hgr1
  go_wp2_with fail
  go_loopg [0, 11] (s.size + 1) (fun g ov iv wr => ∃ x : Nat, x ≤ s.size ∧ g = s.size + 1 - x ∧ iv = .int .i64 x ∧ OB wr N ov (l ++ 34 :: (s.data.toList.take x).flatMap qb) ∧ Below N w wr ∧ N ≤ wr.heap.size ∧ Lib.OthersKept 5 none w wr)
  case atStart => exact ⟨0, by omega, by omega, rfl, by simpa using hown1, hbel1, hsz1, hK1⟩
  case round =>
    obtain ⟨x, hx, hg, rfl, hown2, hbel, hsz, hK⟩ := hrel
    have HK : Hid (Lib.OthersKept 5 none w wr) := hK
    have HG : Hid (gk = s.size + 1 - x) := hg
    clear hown1 hbel1 hsz1 hg hK hK1
    obtain ⟨L, hL⟩ : ∃ L, L = l ++ 34 :: (s.data.toList.take x).flatMap qb := ⟨_, rfl⟩
    rw [← hL] at hown2
    have HL : Hid (L = l ++ 34 :: (s.data.toList.take x).flatMap qb) := hL
    have hLl : L.length ≤ 899999 := by
      have h1 := HLEN.out
      have h2 : ((s.data.toList.take x).flatMap qb).length ≤ (s.data.toList.flatMap qb).length := by
        have h3 := congrArg List.length (congrArg (List.flatMap qb) (List.take_append_drop x s.data.toList))
        rw [List.flatMap_append, List.length_append] at h3
        omega
      rw [hL]; simp [quoteB] at h1 ⊢; simp at h2; omega
    clear hL
    by_cases hlt : x < s.size
    · have HN2 : Hid (L ++ qb (s[x]'hlt) = l ++ 34 :: (s.data.toList.take (x + 1)).flatMap qb) := by
        show _ = _
        rw [HL.out, take_snoc2 s x hlt, List.flatMap_append]; simp
      go_wp2_with fail
      refine (appendByte_any (s[x]'hlt) wr N _ L hsz hown2 (by omega)).mono ?_
      rintro e w4 ⟨o4, rfl, hown4, hbel4, hsz4, hK4⟩
      have HK4 := hid_of0 hK4
      clear hK4
      go_wp2_with fail
      go_roundg (s.size + 1 - (x + 1))
      case measure => rw [HG.out]; omega
      case rel => exact ⟨x + 1, by omega, rfl, by go_num, by rw [← HN2.out]; exact hown4, hbel.trans hbel4, hsz4, HK.out.trans HK4.out⟩
    · have HF : Hid (L ++ [34] = l ++ quoteB s.data.toList) := by
        show _ = _
        rw [HL.out, quoteB, List.take_of_length_le (by simp; omega)]; simp
      go_wp2_with (at_builtin; refine app_bytes rfl (.tmp 20) (.tmp 21) rfl N _ L rfl ?j1 _ _ _ [34] rfl rfl ?j2 ?j3 ?j4 ?_)
      case j1 => exact hown2.alloc _
      case j2 => exact one_new rfl _ _ rfl
      case j3 => simp; omega
      case j4 => simp; omega
      intro v3 w3 hown3 hgr3
      have HK3 : Hid (Lib.OthersKept 5 none wr w3) := ob_kept ((Lib.OthersKept.refl _ _ wr).alloc _) (hown2.alloc _) hgr3
      have hbel3 : Below N wr w3 := ((Below.refl N wr).alloc hsz _).grown hgr3 (by simp; omega) hown2.below
      have hsz3 : N ≤ w3.heap.size := by have := hgr3.size; simp at this; omega
      rw [HF.out] at hown3
      clear hgr3
      go_wp2
      go_ret
      exact ⟨v3, rfl, hown3, hbel.trans hbel3, hsz3, HK.out.trans HK3.out⟩

end Go.Proofs.YtjaoocincdoaaaaGreatDoor

namespace Go.Proofs.YtjaoocincdoaaaaGreatDoor
open Go.RowKit J

set_option linter.unusedVariables false

theorem digF_one : ∀ (f n : Nat) (acc : List UInt8), acc ≠ [] → n < 10 ^ f → digF f n 1 acc = (if n = 0 then [] else Lib.decDigits n) ++ acc
  | 0, n, acc, _, h => by
    have : n = 0 := by simpa using h
    rw [digF, if_pos this]; rfl
  | f + 1, n, acc, ha, h => by
    have hl : 1 ≤ acc.length := by
      cases acc with
      | nil => exact absurd rfl ha
      | cons _ _ => simp
    rw [digF]
    by_cases hn : n = 0
    · rw [if_neg (by omega), if_pos hn]; rfl
    · have h2 : n / 10 < 10 ^ f := by rw [Nat.pow_succ] at h; omega
      rw [if_pos (.inl (by omega)), digF_one f (n / 10) _ (by simp) h2, if_neg hn]
      by_cases h10 : n < 10
      · rw [if_pos (by omega), Lib.decDigits_one h10, show n % 10 = n by omega]; rfl
      · rw [if_neg (by omega)]
        conv => rhs; rw [Lib.decDigits, dif_neg h10]
        simp

theorem digF_step {f n least : Nat} {acc : List UInt8} (h : acc.length < least) : digF (f + 1) n least acc = digF f (n / 10) least (UInt8.ofNat (48 + n % 10) :: acc) := by rw [digF, if_pos (.inr h)]
theorem digF_stop {f least : Nat} {acc : List UInt8} (h : least ≤ acc.length) : digF (f + 1) 0 least acc = acc := by rw [digF, if_neg (by omega)]

theorem digB_one (n : Nat) (h : n < 10 ^ 39) : digB n 1 = Lib.decDigits n := by
  rw [digB, show digF 40 n 1 [] = _ from digF_step (f := 39) (by simp), digF_one 39 (n / 10) _ (by simp) (by omega)]
  by_cases h10 : n < 10
  · rw [if_pos (by omega), Lib.decDigits_one h10, show n % 10 = n by omega]; rfl
  · rw [if_neg (by omega)]
    conv => rhs; rw [Lib.decDigits, dif_neg h10]

theorem dec_snoc (a r : Nat) (h : 1 ≤ a) : Lib.decDigits (a * 10 + r % 10) = Lib.decDigits a ++ [UInt8.ofNat (48 + r % 10)] := by
  rw [Lib.decDigits, dif_neg (by omega), show (a * 10 + r % 10) / 10 = a by omega, show (a * 10 + r % 10) % 10 = r % 10 by omega]

theorem digB_six (r : Nat) (h : r < 1000000) : Lib.decDigits (1000000 + r) = 49 :: digB r 6 ∧ (digB r 6).length = 6 ∧ digB r 6 = [UInt8.ofNat (48 + r / 10 / 10 / 10 / 10 / 10 % 10), UInt8.ofNat (48 + r / 10 / 10 / 10 / 10 % 10), UInt8.ofNat (48 + r / 10 / 10 / 10 % 10), UInt8.ofNat (48 + r / 10 / 10 % 10), UInt8.ofNat (48 + r / 10 % 10), UInt8.ofNat (48 + r % 10)] := by
  rw [digB]
  rw [show digF 40 r 6 [] = _ from digF_step (f := 39) (by simp), show ∀ x y, digF 39 x 6 [y] = _ from fun x y => digF_step (f := 38) (by simp), show ∀ x a b, digF 38 x 6 [a, b] = _ from fun x a b => digF_step (f := 37) (by simp),
    show ∀ x a b c, digF 37 x 6 [a, b, c] = _ from fun x a b c => digF_step (f := 36) (by simp), show ∀ x a b c d, digF 36 x 6 [a, b, c, d] = _ from fun x a b c d => digF_step (f := 35) (by simp), show ∀ x a b c d e, digF 35 x 6 [a, b, c, d, e] = _ from fun x a b c d e => digF_step (f := 34) (by simp),
    show r / 10 / 10 / 10 / 10 / 10 / 10 = 0 by omega, show ∀ a b c d e g, digF 34 0 6 [a, b, c, d, e, g] = _ from fun a b c d e g => digF_stop (f := 33) (by simp)]
  have e1 : 1000000 + r = (100000 + r / 10) * 10 + r % 10 := by omega
  have e2 : 100000 + r / 10 = (10000 + r / 10 / 10) * 10 + r / 10 % 10 := by omega
  have e3 : 10000 + r / 10 / 10 = (1000 + r / 10 / 10 / 10) * 10 + r / 10 / 10 % 10 := by omega
  have e4 : 1000 + r / 10 / 10 / 10 = (100 + r / 10 / 10 / 10 / 10) * 10 + r / 10 / 10 / 10 % 10 := by omega
  have e5 : 100 + r / 10 / 10 / 10 / 10 = (10 + r / 10 / 10 / 10 / 10 / 10) * 10 + r / 10 / 10 / 10 / 10 % 10 := by omega
  have e6 : 10 + r / 10 / 10 / 10 / 10 / 10 = 1 * 10 + r / 10 / 10 / 10 / 10 / 10 % 10 := by omega
  rw [e1, dec_snoc _ _ (by omega), e2, dec_snoc _ _ (by omega), e3, dec_snoc _ _ (by omega), e4, dec_snoc _ _ (by omega), e5, dec_snoc _ _ (by omega), e6, dec_snoc _ _ (by omega), Lib.decDigits_one (by omega)]
  exact ⟨rfl, rfl, rfl⟩

theorem dropW_nil : ∀ (l : List UInt8), l.dropWhile (fun c => c == 48) = [] → ∀ c ∈ l, c = 48
  | [], _, c, hc => by simp at hc
  | a :: l, h, c, hc => by
    by_cases ha : a = 48
    · rw [List.dropWhile_cons_of_pos (by simpa using ha)] at h
      rcases List.mem_cons.1 hc with e | e
      · rw [e]; exact ha
      · exact dropW_nil l h c e
    · rw [List.dropWhile_cons_of_neg (by simpa using ha)] at h
      simp at h
theorem u48 {d : Nat} (hd : d < 10) (h : UInt8.ofNat (48 + d) = 48) : d = 0 := by
  have := congrArg UInt8.toNat h
  rw [UInt8.toNat_ofNat'] at this
  have h2 : (48 : UInt8).toNat = 48 := rfl
  omega
theorem trim_six {r : Nat} (h : r < 1000000) (h0 : r ≠ 0) : trim0 (digB r 6) ≠ [] := by
  intro e
  have hall : ∀ c ∈ digB r 6, c = 48 := by
    intro c hc
    unfold trim0 at e
    rw [List.reverse_eq_nil_iff] at e
    have hx : c ∈ (digB r 6).reverse := by simpa using hc
    exact dropW_nil _ e c hx
  rw [(digB_six r h).2.2] at hall
  have a1 := u48 (by omega) (hall _ (List.mem_cons_self ..))
  have a2 := u48 (d := r / 10 / 10 / 10 / 10 % 10) (by omega) (hall _ (by simp))
  have a3 := u48 (d := r / 10 / 10 / 10 % 10) (by omega) (hall _ (by simp))
  have a4 := u48 (d := r / 10 / 10 % 10) (by omega) (hall _ (by simp))
  have a5 := u48 (d := r / 10 % 10) (by omega) (hall _ (by simp))
  have a6 := u48 (d := r % 10) (by omega) (hall _ (by simp))
  omega

end Go.Proofs.YtjaoocincdoaaaaGreatDoor

namespace Go.Proofs.YtjaoocincdoaaaaGreatDoor
open Go.RowKit J

set_option linter.unusedVariables false

/-- The table of powers that the library's digits want; nothing below block N turns it. -/
def Pow10 (N : Nat) (w : World) : Prop := Lib.TabBelow Tryz.prog N w "internal/strconv.uint64pow10" .u64 Lib.pow10Tab

theorem appInt_any (m : Nat) (hm : m < 10000000000) (w : World) (N : Nat) (out : Value) (l : List UInt8) (hN : N ≤ w.heap.size) (hown : OB w N out l) (hlen : l.length ≤ 900000) (hp : Pow10 N w) :
    Calls Tryz.prog 48 #[out, .int .i64 (m : Int), .int .i64 10] w fun e w' => ∃ out', e = .returned out' ∧ OB w' N out' (l ++ digB m 1) ∧ Below N w w' ∧ N ≤ w'.heap.size := by
  refine (Tryz.strconv_AppendInt_10 N l.length (m : Int) (by omega) (by omega) out (bv l) w hown hN (by omega) hp).mono ?_
  rintro e w' ⟨v', rfl, h1, h2, _⟩
  refine ⟨v', rfl, ?_, h2, Nat.le_trans hN h2.size⟩
  rw [Lib.itoa_nonneg] at h1
  show World.ownsRow _ _ _ _ _ _ _
  rw [digB_one m (by omega), List.length_append, bv_append]
  exact h1

theorem fmtInt_any (r : Nat) (hr : r < 1000000) (w : World) (N : Nat) (hN : N ≤ w.heap.size) (hp : Pow10 N w) :
    Calls Tryz.prog 49 #[.int .i64 (1000000 + (r : Int)), .int .i64 10] w fun e w' => (∃ t, e = .returned (.string (bs t)) ∧ t.drop 1 = digB r 6 ∧ t.length = 7) ∧ Below w.heap.size w w' := by
  refine (Tryz.strconv_FormatInt_10 (1000000 + (r : Int)) (by omega) (by omega) w hp.here).mono ?_
  rintro e w' ⟨rfl, k, os, rfl⟩
  obtain ⟨h1, h2, _⟩ := digB_six r hr
  refine ⟨⟨Lib.decDigits (1000000 + r), ?_, by rw [h1]; rfl, by rw [h1]; simp [h2]⟩, Lib.below_grow _ _ (Nat.le_refl _) _ _⟩
  rw [show (1000000 + (r : Int)) = ((1000000 + r : Nat) : Int) by omega, Lib.itoa_nonneg]; rfl

theorem digF_len2 : ∀ (f n least : Nat) (acc : List UInt8), (digF f n least acc).length ≤ f + acc.length
  | 0, n, least, acc => by rw [digF]; omega
  | f + 1, n, least, acc => by
    rw [digF]; split
    · have := digF_len2 f (n / 10) least (UInt8.ofNat (48 + n % 10) :: acc)
      simp only [List.length_cons] at this; omega
    · omega

theorem wtrim (t : List UInt8) (w : World) (hl : t.length ≤ 100000) : Calls Tryz.prog 50 #[.string (bs t), .string ⟨#[48]⟩] w fun e w' => e = .returned (.string (bs (trim0 t))) ∧ w = w' := by
  refine (Tryz.strings_TrimRight_one (bs t) 48 (by decide) w (by rw [bs_size]; omega)).mono ?_
  rintro e w' ⟨rfl, rfl⟩
  exact ⟨by simp [bs]; rfl, rfl⟩

set_option maxHeartbeats 4000000 in
theorem appendNumber_pos (m : Nat) (hm : m ≤ 1000000000000000) (w : World) (N : Nat) (out : Value) (l : List UInt8) (hN : N ≤ w.heap.size) (hown : OB w N out l) (hlen : l.length ≤ 800000) (hp : Pow10 N w) :
    Calls Tryz.prog 32 #[out, .int .i64 (m : Int)] w fun e w' => ∃ out', e = .returned out' ∧ OB w' N out' (l ++ decB (m : Int)) ∧ Below N w w' ∧ N ≤ w'.heap.size := by
  have HP : Hid (Pow10 N w) := hp
  have HO : Hid (OB w N out l) := hown
  obtain ⟨q, hq⟩ : ∃ q, q = m / 1000000 := ⟨_, rfl⟩
  obtain ⟨r, hr⟩ : ∃ r, r = m % 1000000 := ⟨_, rfl⟩
  have hmi : (m : Int) = (q : Int) * 1000000 + (r : Int) := by omega
  have hr6 : r < 1000000 := by omega
  have hq0 : (m : Int).tdiv 1000000 = (q : Int) := by rw [Int.tdiv_eq_ediv_of_nonneg (by omega)]; omega
  have hr0 : (m : Int).tmod 1000000 = (r : Int) := by rw [Int.tmod_eq_emod_of_nonneg (by omega)]; omega
  have hqb : q ≤ 1000000000 := by omega
  have HB : Hid (decB (m : Int) = digB q 1 ++ (if trim0 (digB r 6) = [] then [] else 46 :: trim0 (digB r 6))) := by
    show _ = _
    rw [decB, if_neg (by omega), List.nil_append, show (m : Int).natAbs = m from rfl, hq, hr]
  clear hp hown hq hr hmi
  go_enter Tryz.func32, Tryz.ntmps32
  go_wp2_with fail
  refine (appInt_any q (by omega) w N out l hN HO.out (by omega) HP.out).mono ?_
  rintro e w1 ⟨o1, rfl, hown1, hb1, hs1⟩
  have hl1 : (digB q 1).length ≤ 40 := digF_len2 40 q 1 []
  by_cases hr : r = 0
  · subst hr
    have HF : Hid (l ++ digB q 1 = l ++ decB (m : Int)) := by show _ = _; rw [HB.out, if_pos (by decide)]; simp
    go_wp2_with fail
    go_ret
    exact ⟨o1, rfl, HF.out ▸ hown1, hb1, hs1⟩
  · have hrb : ((r : Int) == 0) = false := beq_eq_false_iff_ne.2 (by omega)
    have HF : Hid (l ++ digB q 1 ++ [46] ++ trim0 (digB r 6) = l ++ decB (m : Int)) := by show _ = _; rw [HB.out, if_neg (trim_six hr6 hr)]; simp
    have HP1 : Hid (Pow10 N w1) := HP.out.on hb1
    go_wp2_with fail
    refine (fmtInt_any r hr6 w1 N hs1 HP1.out).mono ?_
    rintro e w2 ⟨⟨t, rfl, ht1, ht2⟩, hb2⟩
    have szt : (bs t).size = 7 := by rw [bs_size]; exact ht2
    have hxt : (bs t).extract 1 7 = bs (digB r 6) := by
      rw [← ht1]
      apply ByteArray.ext
      rw [ByteArray.data_extract]
      simp [bs, List.extract_toArray, ← ht2]
      exact List.take_of_length_le (by simp)
    have HXT : Hid ((bs t).extract 1 7 = bs (digB r 6)) := hxt
    have h6 : (digB r 6).length = 6 := (digB_six r hr6).2.1
    have hB2 : Below N w w2 := hb1.trans (hb2.mono hs1)
    have hs2 : N ≤ w2.heap.size := Nat.le_trans hs1 hb2.size
    have hown2 : OB w2 N o1 (l ++ digB q 1) :=
      World.ownsRow.kept (row := none) hown1 ⟨hb2.os, hb2.tape, hb2.output, hb2.size, fun k hk _ => hb2.block k hk⟩ (by
        cases hv : o1.ownBlock with
        | none => exact Or.inl rfl
        | some g => right; simp)
    clear hxt ht1 ht2 hb2 hown1
    go_wp2_with (at_builtin; refine app_bytes rfl (.tmp 27) (.tmp 28) rfl N o1 (l ++ digB q 1) rfl ?h1 _ _ _ [46] rfl rfl ?h2 ?h3 ?h4 ?_)
    case h1 => exact hown2.alloc _
    case h2 => exact one_new rfl _ _ rfl
    case h3 => simp; omega
    case h4 => simp; omega
    intro o3 w3 hown3 hgr
    have hB3 : Below N w w3 := (hB2.alloc hs2 _).grown hgr (by simp; omega) hown2.below
    have hs3 : N ≤ w3.heap.size := by have := hgr.size; simp at this; omega
    clear hgr hown2
    go_wp2_with fail
    rw [HXT.out]
    refine (wtrim (digB r 6) _ (by omega)).mono ?_
    rintro e w4 ⟨rfl, rfl⟩
    have htl : (bs (trim0 (digB r 6))).size ≤ 6 := by
      rw [bs_size]
      have : (trim0 (digB r 6)).length ≤ (digB r 6).length := by
        unfold trim0
        rw [List.length_reverse]
        have := (List.dropWhile_sublist (fun c : UInt8 => c == 48) (l := (digB r 6).reverse)).length_le
        rw [List.length_reverse] at this
        exact this
      omega
    go_wp2_with (at_builtin; refine app_str rfl (.tmp 30) (.tmp 32) rfl N o3 (l ++ digB q 1 ++ [46]) rfl ?k1 (bs (trim0 (digB r 6))) rfl ?k2 ?k3 ?_)
    case k1 => simpa using hown3
    case k2 => simp; omega
    case k3 => exact hs3
    intro o5 w5 hown5 hgr5
    have hB5 : Below N w w5 := hB3.grown hgr5 hs3 hown3.below
    have hs5 : N ≤ w5.heap.size := Nat.le_trans hs3 hgr5.size
    clear hgr5
    go_wp2_with fail
    go_ret
    refine ⟨o5, rfl, ?_, hB5, hs5⟩
    rw [← HF.out]
    simpa [bs] using hown5

end Go.Proofs.YtjaoocincdoaaaaGreatDoor
