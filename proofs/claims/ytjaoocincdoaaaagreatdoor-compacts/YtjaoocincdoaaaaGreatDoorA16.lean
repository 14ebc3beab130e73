/- The program's values, written: the leaves and the lists. The program's values, written: the objects, and all. The program's values, written: all; its text. errors.Is and errors.As at the program's own errors. errors.As at the program's own error type. -/
import Derived.Test.YtjaoocincdoaaaaGreatDoorA15
import Derived.LaidEql
import Derived.Stop.Asserts
import Derived.RowKitTokens
namespace Go.Proofs.YtjaoocincdoaaaaGreatDoor
open Go.RowKit J

set_option linter.unusedVariables false

theorem Pow10.on {N : Nat} {w w' : World} (h : Pow10 N w) (hb : Below N w w') : Pow10 N w' := Lib.TabBelow.on h hb

/-! What the type switch of 'appendValue' finds. -/
theorem ta_UB (v : Value) (w : World) : (Instr.typeAssert (.iface 54 v) 27 56 true).run Tryz.prog w = .ok (.tuple #[.bool false, .bool false]) w := by kernel_rfl
theorem ta_UN (v : Value) (w : World) : (Instr.typeAssert (.iface 54 v) 27 76 true).run Tryz.prog w = .ok (.tuple #[.int .i64 0, .bool false]) w := by kernel_rfl
theorem ta_US (v : Value) (w : World) : (Instr.typeAssert (.iface 54 v) 27 59 true).run Tryz.prog w = .ok (.tuple #[.string ⟨#[]⟩, .bool false]) w := by kernel_rfl
theorem ta_UL (v : Value) (w : World) : (Instr.typeAssert (.iface 54 v) 27 80 true).run Tryz.prog w = .ok (.tuple #[.slice none 0 0, .bool false]) w := by kernel_rfl
theorem ta_UO (v : Value) (w : World) : (Instr.typeAssert (.iface 54 v) 27 83 true).run Tryz.prog w = .ok (.tuple #[.slice none 0 0, .bool false]) w := by kernel_rfl
theorem ta_BB (v : Value) (w : World) : (Instr.typeAssert (.iface 56 v) 27 56 true).run Tryz.prog w = .ok (.tuple #[v, .bool true]) w := by kernel_rfl
theorem ta_NB (v : Value) (w : World) : (Instr.typeAssert (.iface 76 v) 27 56 true).run Tryz.prog w = .ok (.tuple #[.bool false, .bool false]) w := by kernel_rfl
theorem ta_NN (v : Value) (w : World) : (Instr.typeAssert (.iface 76 v) 27 76 true).run Tryz.prog w = .ok (.tuple #[v, .bool true]) w := by kernel_rfl
theorem ta_SB (v : Value) (w : World) : (Instr.typeAssert (.iface 59 v) 27 56 true).run Tryz.prog w = .ok (.tuple #[.bool false, .bool false]) w := by kernel_rfl
theorem ta_SN (v : Value) (w : World) : (Instr.typeAssert (.iface 59 v) 27 76 true).run Tryz.prog w = .ok (.tuple #[.int .i64 0, .bool false]) w := by kernel_rfl
theorem ta_SS (v : Value) (w : World) : (Instr.typeAssert (.iface 59 v) 27 59 true).run Tryz.prog w = .ok (.tuple #[v, .bool true]) w := by kernel_rfl
theorem ta_LB (v : Value) (w : World) : (Instr.typeAssert (.iface 80 v) 27 56 true).run Tryz.prog w = .ok (.tuple #[.bool false, .bool false]) w := by kernel_rfl
theorem ta_LN (v : Value) (w : World) : (Instr.typeAssert (.iface 80 v) 27 76 true).run Tryz.prog w = .ok (.tuple #[.int .i64 0, .bool false]) w := by kernel_rfl
theorem ta_LS (v : Value) (w : World) : (Instr.typeAssert (.iface 80 v) 27 59 true).run Tryz.prog w = .ok (.tuple #[.string ⟨#[]⟩, .bool false]) w := by kernel_rfl
theorem ta_LL (v : Value) (w : World) : (Instr.typeAssert (.iface 80 v) 27 80 true).run Tryz.prog w = .ok (.tuple #[v, .bool true]) w := by kernel_rfl
theorem ta_OB (v : Value) (w : World) : (Instr.typeAssert (.iface 83 v) 27 56 true).run Tryz.prog w = .ok (.tuple #[.bool false, .bool false]) w := by kernel_rfl
theorem ta_ON (v : Value) (w : World) : (Instr.typeAssert (.iface 83 v) 27 76 true).run Tryz.prog w = .ok (.tuple #[.int .i64 0, .bool false]) w := by kernel_rfl
theorem ta_OS (v : Value) (w : World) : (Instr.typeAssert (.iface 83 v) 27 59 true).run Tryz.prog w = .ok (.tuple #[.string ⟨#[]⟩, .bool false]) w := by kernel_rfl
theorem ta_OL (v : Value) (w : World) : (Instr.typeAssert (.iface 83 v) 27 80 true).run Tryz.prog w = .ok (.tuple #[.slice none 0 0, .bool false]) w := by kernel_rfl
theorem ta_OO (v : Value) (w : World) : (Instr.typeAssert (.iface 83 v) 27 83 true).run Tryz.prog w = .ok (.tuple #[v, .bool true]) w := by kernel_rfl

/-- The contract of 'appendValue' at a depth. -/
def WrP (n : Nat) : Prop :=
  ∀ (v : VT n) (x : Value) (w : World) (N : Nat) (out : Value) (l : List UInt8), RefP n w (fun m => m < N) v x → VOk n v → N ≤ w.heap.size → OB w N out l → Pow10 N w → l.length + (vtext n v).length ≤ 600000 →
    Calls Tryz.prog 16 #[out, x] w fun e w' => ∃ out', e = .returned out' ∧ OB w' N out' (l ++ vtext n v) ∧ Below N w w' ∧ N ≤ w'.heap.size

set_option maxRecDepth 100000 in
set_option maxHeartbeats 4000000 in
theorem pw_leaf (lf : Lf) (w : World) (N : Nat) (out : Value) (l : List UInt8) (hok : LOk lf) (hN : N ≤ w.heap.size) (hown : OB w N out l) (hp : Pow10 N w) (hlen : l.length + (ltext lf).length ≤ 600000) :
    Calls Tryz.prog 16 #[out, plf lf] w fun e w' => ∃ out', e = .returned out' ∧ OB w' N out' (l ++ ltext lf) ∧ Below N w w' ∧ N ≤ w'.heap.size := by
  match lf, hok, hlen with
  | Sum.inl _, hok, hlen =>
    have hlen' : l.length ≤ 600000 := by omega
    have HO : Hid (OB w N out l) := hown
    rw [plf]
    clear hok hlen hown hp
    have ta_UB' := ta_UB
    have ta_UN' := ta_UN
    have ta_US' := ta_US
    have ta_UL' := ta_UL
    have ta_UO' := ta_UO
    go_enter Tryz.func16, Tryz.ntmps16
    go_wp2_with (at_builtin; go_loud (refine app_str rfl _ _ rfl N out l rfl HO.out ⟨#[110, 117, 108, 108]⟩ rfl ?h3 hN ?_))
    case h3 => show l.length + 4 ≤ 1000000; omega
    intro v' w4 hown4 hgr
    go_wp2
    go_ret
    exact ⟨v', rfl, hown4, (Below.refl N w).grown hgr hN HO.out.below, Nat.le_trans hN hgr.size⟩
  | Sum.inr (Sum.inl t), hok, hlen =>
    have HT : Hid (ltext (Sum.inr (Sum.inl t)) = if t then trueL else falseL) := by cases t <;> rfl
    have HQ := abool_any t w N out l hN hown (by omega)
    rw [HT.out]
    obtain ⟨TL, hTL⟩ : ∃ TL, TL = (if t = true then trueL else falseL) := ⟨_, rfl⟩
    rw [← hTL] at HQ ⊢
    clear HT hTL
    have HQ' := hid_of HQ
    rw [plf]
    clear hok hlen hown hp HQ
    have ta_BB' := ta_BB
    go_enter Tryz.func16, Tryz.ntmps16
    go_wp2_with fail
    refine HQ'.out.mono ?_
    rintro e w2 ⟨o2, rfl, h2⟩
    go_wp2
    go_ret
    exact ⟨o2, rfl, h2⟩
  | Sum.inr (Sum.inr (Sum.inl n)), hok, hlen =>
    have hok' : -1000000000000000 ≤ n ∧ n ≤ 1000000000000000 := hok
    have HQ : Calls Tryz.prog 32 #[out, .int .i64 n] w fun e w' => ∃ out', e = .returned out' ∧ OB w' N out' (l ++ decB n) ∧ Below N w w' ∧ N ≤ w'.heap.size := by
      by_cases h0 : 0 ≤ n
      · have := appendNumber_pos n.toNat (by omega) w N out l hN hown (by omega) hp
        rw [show ((n.toNat : Nat) : Int) = n by omega] at this; exact this
      · have := appendNumber_neg (-n).toNat (by omega) (by omega) w N out l hN hown (by omega) hp
        rw [show -(((-n).toNat : Nat) : Int) = n by omega] at this; exact this
    have HQ' := hid_of HQ
    have HT : Hid (ltext (Sum.inr (Sum.inr (Sum.inl n))) = decB n) := rfl
    rw [HT.out, plf]
    clear hok hok' hlen hown hp HQ
    have ta_NB' := ta_NB
    have ta_NN' := ta_NN
    go_enter Tryz.func16, Tryz.ntmps16
    go_wp2_with fail
    refine HQ'.out.mono ?_
    rintro e w2 ⟨o2, rfl, h2⟩
    go_wp2
    go_ret
    exact ⟨o2, rfl, h2⟩
  | Sum.inr (Sum.inr (Sum.inr s)), hok, hlen =>
    have hok' : s.size ≤ 100000 := hok
    have hlen' : l.length + (quoteB s.data.toList).length ≤ 600000 := hlen
    have HQ : Calls Tryz.prog 33 #[out, .string s] w fun e w' => ∃ out', e = .returned out' ∧ OB w' N out' (l ++ quoteB s.data.toList) ∧ Below N w w' ∧ N ≤ w'.heap.size := (appendString_any s w N out l hN hown hok' (by omega)).mono (fun e w' ⟨o, h1, h2, h3, h4, _⟩ => ⟨o, h1, h2, h3, h4⟩)
    have HQ' := hid_of HQ
    have HT : Hid (ltext (Sum.inr (Sum.inr (Sum.inr s))) = quoteB s.data.toList) := rfl
    rw [HT.out, plf]
    clear hok hok' hlen hlen' hown hp HQ
    have ta_SB' := ta_SB
    have ta_SN' := ta_SN
    have ta_SS' := ta_SS
    go_enter Tryz.func16, Tryz.ntmps16
    go_wp2_with fail
    refine HQ'.out.mono ?_
    rintro e w2 ⟨o2, rfl, h2⟩
    go_wp2
    go_ret
    exact ⟨o2, rfl, h2⟩

set_option maxHeartbeats 4000000 in
theorem pw_list (n : Nat) (ih : WrP n) (vs : List (VT n)) (sl : Value) (xs : List Value) (w : World) (N : Nat) (out : Value) (l : List UInt8) (hrow : Row w 27 sl xs) (hlN : ∀ g, sl.ownBlock = some g → g < N) (hall : All2 (RefP n w (fun m => m < N)) vs xs) (hok : ∀ x ∈ vs, VOk n x) (hN : N ≤ w.heap.size) (hown : OB w N out l) (hp : Pow10 N w) (hlen : l.length + (91 :: itemsF true (vs.map (vtext n)) ++ [93]).length ≤ 600000) :
    Calls Tryz.prog 34 #[out, sl] w fun e w' => ∃ out', e = .returned out' ∧ OB w' N out' (l ++ (91 :: itemsF true (vs.map (vtext n)) ++ [93])) ∧ Below N w w' ∧ N ≤ w'.heap.size := by
  have hmax := hrow.maxlen
  have hvl := hall.length
  have hform := hrow.len
  have HALL : Hid (All2 (RefP n w (fun m => m < N)) vs xs) := hall
  have HOK : Hid (∀ x ∈ vs, VOk n x) := hok
  have HIH : Hid (WrP n) := ih
  have HVL : Hid (vs.length = xs.length) := hvl
  have HPW : Hid (Pow10 N w) := hp
  have HLEN : Hid (l.length + (91 :: itemsF true (vs.map (vtext n)) ++ [93]).length ≤ 600000) := hlen
  unfold maxLen at hmax
  have hll : l.length ≤ 599998 := by have := HLEN.out; simp at this; omega
  obtain ⟨P, hP⟩ : ∃ P, P = l ++ (91 :: itemsF true (vs.map (vtext n)) ++ [93]) := ⟨_, rfl⟩
  have HP : Hid (P = l ++ (91 :: itemsF true (vs.map (vtext n)) ++ [93])) := hP
  rw [← hP]
  have HC : Hid (∀ g cap, sl = .slice (some ⟨g, 0, none⟩) xs.length cap → g < N ∧ ∀ i u, xs[i]? = some u → w.cell? ⟨g, i, none⟩ = some u) := by
    intro g cap e
    subst e
    exact ⟨hlN g rfl, fun i u hu => hrow.get hu⟩
  rcases hform with ⟨rfl, hnil⟩ | ⟨gl, capl, rfl, hcl⟩
  · subst hnil
    have hvs : vs = [] := List.eq_nil_of_length_eq_zero (by simpa using hvl)
    have HF : Hid (P = l ++ [91] ++ [93]) := by show _ = _; rw [HP.out, hvs]; simp [itemsF]
    clear hrow hlN hall hok ih hvl hlen hP hp hvs HALL HC
    go_enter Tryz.func34, Tryz.ntmps34
    go_wp2_with (at_builtin; refine app_bytes rfl (.tmp 7) (.tmp 8) rfl N out l rfl ?h1 _ _ _ [91] rfl rfl ?h2 ?h3 ?h4 ?_)
    case h1 => exact hown.alloc _
    case h2 => exact one_new rfl _ _ rfl
    case h3 => simp; omega
    case h4 => simp; omega
    intro v1 w1 hown1 hgr1
    have hbel1 : Below N w w1 := ((Below.refl N w).alloc hN _).grown hgr1 (by simp; omega) hown.below
    have hsz1 : N ≤ w1.heap.size := by have := hgr1.size; simp at this; omega
    clear hgr1
    go_wp2_with fail
    go_loopg [0, 12] 1 (fun g ov iv wr => ov = v1 ∧ iv = .int .i64 0 ∧ wr = w1)
    case atStart => exact ⟨rfl, rfl, rfl⟩
    case round =>
      obtain ⟨rfl, rfl, rfl⟩ := hrel
      go_wp2_with (at_builtin; refine app_bytes rfl (.tmp 26) (.tmp 27) rfl N _ (l ++ [91]) rfl ?j1 _ _ _ [93] rfl rfl ?j2 ?j3 ?j4 ?_)
      case j1 => exact hown1.alloc _
      case j2 => exact one_new rfl _ _ rfl
      case j3 => simp; omega
      case j4 => simp; omega
      intro v3 w3 hown3 hgr3
      have hbel3 : Below N wr w3 := ((Below.refl N wr).alloc hsz1 _).grown hgr3 (by simp; omega) hown1.below
      have hsz3 : N ≤ w3.heap.size := by have := hgr3.size; simp at this; omega
      have hown3' : OB w3 N v3 P := by rw [HF.out]; simpa using hown3
      clear hgr3 hown3
      go_wp2
      go_ret
      exact ⟨v3, rfl, hown3', hbel1.trans hbel3, hsz3⟩
  · have hglN : gl < N := hlN gl rfl
    clear hrow hlN hall hok ih hvl hlen hP hp
    go_enter Tryz.func34, Tryz.ntmps34
    go_wp2_with (at_builtin; refine app_bytes rfl (.tmp 7) (.tmp 8) rfl N out l rfl ?h1 _ _ _ [91] rfl rfl ?h2 ?h3 ?h4 ?_)
    case h1 => exact hown.alloc _
    case h2 => exact one_new rfl _ _ rfl
    case h3 => simp; omega
    case h4 => simp; omega
    intro v1 w1 hown1 hgr1
    have hbel1 : Below N w w1 := ((Below.refl N w).alloc hN _).grown hgr1 (by simp; omega) hown.below
    have hsz1 : N ≤ w1.heap.size := by have := hgr1.size; simp at this; omega
    clear hgr1
    go_wp2_with fail
    go_loopg [0, 12] (xs.length + 1) (fun g ov iv wr => ∃ x : Nat, x ≤ xs.length ∧ g = xs.length + 1 - x ∧ iv = .int .i64 x ∧ OB wr N ov (l ++ 91 :: itemsF true ((vs.take x).map (vtext n))) ∧ Below N w wr ∧ N ≤ wr.heap.size)
    case atStart => exact ⟨0, by omega, by omega, rfl, by simpa [itemsF] using hown1, hbel1, hsz1⟩
    case round =>
      obtain ⟨x, hx, hg, rfl, hown2, hbel, hsz⟩ := hrel
      have HG : Hid (gk = xs.length + 1 - x) := hg
      clear hown1 hbel1 hsz1 hg
      obtain ⟨L, hL⟩ : ∃ L, L = l ++ 91 :: itemsF true ((vs.take x).map (vtext n)) := ⟨_, rfl⟩
      rw [← hL] at hown2
      have HL : Hid (L = l ++ 91 :: itemsF true ((vs.take x).map (vtext n))) := hL
      have hLl : L.length ≤ 599999 := by
        have h1 := HLEN.out
        have h2 := itemsF_le true (vs.map (vtext n)) x
        rw [← List.map_take] at h2
        rw [List.length_append, List.length_cons, List.length_singleton] at h1
        rw [hL, List.length_append, List.length_cons]; omega
      clear hL
      by_cases hlt : x < xs.length
      · obtain ⟨a, b, ha, hb, hab⟩ := HALL.out.get x (by rw [HVL.out]; exact hlt)
        have hcc := HC.out gl capl rfl
        have cp := (hbel.cell (p := ⟨gl, x, none⟩) hcc.1).trans (hcc.2 x b hb)
        have HAB : Hid (RefP n wr (fun m => m < N) a b) := RefP.keep n hab (fun k hk _ => ⟨hbel.block k hk, hk⟩)
        have HNX : Hid (l ++ 91 :: itemsF true ((vs.take (x + 1)).map (vtext n)) = L ++ ((if x = 0 then [] else [44]) ++ vtext n a)) := by
          show _ = _
          rw [take_map_snoc _ _ _ _ ha, itemsF_snoc, HL.out]
          by_cases hx0 : x = 0
          · subst hx0; simp [itemsF]
          · rw [if_neg hx0]
            have : ((vs.take x).map (vtext n)).isEmpty = false := by
              have h1 : vs.length = xs.length := HVL.out
              rw [List.isEmpty_eq_false_iff]; intro e
              have h2 := congrArg List.length e
              rw [List.length_map, List.length_take, List.length_nil] at h2; omega
            rw [this]; simp
        have HLB : Hid ((L ++ ((if x = 0 then [] else [44]) ++ vtext n a)).length ≤ 599999) := by
          show _ ≤ _
          have h1 := HLEN.out
          have h2 := itemsF_le true (vs.map (vtext n)) (x + 1)
          rw [← List.map_take] at h2
          rw [List.length_append, List.length_cons, List.length_singleton] at h1
          rw [← HNX.out, List.length_append, List.length_cons]; omega
        have HOA : Hid (VOk n a) := HOK.out a (List.mem_of_getElem? ha)
        have HPr : Hid (Pow10 N wr) := HPW.out.on hbel
        clear hcc hab ha hb
        by_cases hx0 : x = 0
        · subst hx0
          have HLB2 : Hid (L.length + (vtext n a).length ≤ 600000) := by show _ ≤ _; have := HLB.out; simp at this; omega
          have HNX2 : Hid (l ++ 91 :: itemsF true ((vs.take (0 + 1)).map (vtext n)) = L ++ vtext n a) := by show _ = _; rw [HNX.out]; simp
          go_wp2_with fail
          refine (HIH.out a b wr N _ L HAB.out HOA.out hsz hown2 HPr.out HLB2.out).mono ?_
          rintro e w4 ⟨o4, rfl, hown4, hbel4, hsz4⟩
          go_wp2_with fail
          go_roundg (xs.length + 1 - (0 + 1))
          case measure => rw [HG.out]; omega
          case rel => exact ⟨0 + 1, by omega, rfl, by go_num, by rw [HNX2.out]; exact hown4, hbel.trans hbel4, hsz4⟩
        · have hx1 : 0 < x := by omega
          have HLB2 : Hid ((L ++ [44]).length + (vtext n a).length ≤ 600000) := by show _ ≤ _; have := HLB.out; rw [if_neg hx0] at this; simp at this ⊢; omega
          have HNX2 : Hid (l ++ 91 :: itemsF true ((vs.take (x + 1)).map (vtext n)) = (L ++ [44]) ++ vtext n a) := by show _ = _; rw [HNX.out, if_neg hx0]; simp
          clear hx0
          go_wp2_with (at_builtin; refine app_bytes rfl (.tmp 19) (.tmp 20) rfl N _ L rfl ?k1 _ _ _ [44] rfl rfl ?k2 ?k3 ?k4 ?_)
          case k1 => exact hown2.alloc _
          case k2 => exact one_new rfl _ _ rfl
          case k3 => simp; omega
          case k4 => simp; omega
          intro v3 w3 hown3 hgr3
          have hbel3 : Below N wr w3 := ((Below.refl N wr).alloc hsz _).grown hgr3 (by simp; omega) hown2.below
          have hsz3 : N ≤ w3.heap.size := by have := hgr3.size; simp at this; omega
          have HAB3 : Hid (RefP n w3 (fun m => m < N) a b) := RefP.keep n HAB.out (fun k hk _ => ⟨hbel3.block k hk, hk⟩)
          clear hgr3 cp
          go_wp2_with fail
          refine (HIH.out a b w3 N _ (L ++ [44]) HAB3.out HOA.out hsz3 hown3 (HPr.out.on hbel3) HLB2.out).mono ?_
          rintro e w4 ⟨o4, rfl, hown4, hbel4, hsz4⟩
          go_wp2_with fail
          go_roundg (xs.length + 1 - (x + 1))
          case measure => rw [HG.out]; omega
          case rel => exact ⟨x + 1, by omega, rfl, by go_num, by rw [HNX2.out]; exact hown4, (hbel.trans hbel3).trans hbel4, hsz4⟩
      · have hxe : x = xs.length := by omega
        have HF : Hid (L ++ [93] = P) := by
          show _ = _
          rw [HP.out, HL.out, List.take_of_length_le (by rw [HVL.out]; omega)]; simp
        go_wp2_with (at_builtin; refine app_bytes rfl (.tmp 26) (.tmp 27) rfl N _ L rfl ?j1 _ _ _ [93] rfl rfl ?j2 ?j3 ?j4 ?_)
        case j1 => exact hown2.alloc _
        case j2 => exact one_new rfl _ _ rfl
        case j3 => simp; omega
        case j4 => simp; omega
        intro v3 w3 hown3 hgr3
        have hbel3 : Below N wr w3 := ((Below.refl N wr).alloc hsz _).grown hgr3 (by simp; omega) hown2.below
        have hsz3 : N ≤ w3.heap.size := by have := hgr3.size; simp at this; omega
        rw [HF.out] at hown3
        clear hgr3
        go_wp2
        go_ret
        exact ⟨v3, rfl, hown3, hbel.trans hbel3, hsz3⟩

end Go.Proofs.YtjaoocincdoaaaaGreatDoor

namespace Go.Proofs.YtjaoocincdoaaaaGreatDoor
open Go.RowKit J

set_option linter.unusedVariables false

theorem cell0_of {w : World} {m : Nat} {x y : Value} {t : TypeId} (h : w.heap[m]? = some (.cells #[x, y] t (0, 0))) : w.cell? ⟨m, 0, none⟩ = some x := by simp [World.cell?, h]
theorem cell1_of {w : World} {m : Nat} {x y : Value} {t : TypeId} (h : w.heap[m]? = some (.cells #[x, y] t (0, 0))) : w.cell? ⟨m, 1, none⟩ = some y := by simp [World.cell?, h]
theorem Mem.maxlen {w : World} {v : Value} {ks : List ByteArray} {xs : List Value} (h : Mem w v ks xs) : xs.length ≤ maxLen := by
  rcases h.2.2 with ⟨h2, h3⟩ | ⟨g', cap', cur, h2, h0, hg, hc, hm, r⟩
  · omega
  · omega

theorem zip_snoc {n : Nat} (ks : List ByteArray) (vs : List (VT n)) (x : Nat) (k : ByteArray) (a : VT n) (hk : ks[x]? = some k) (ha : vs[x]? = some a) :
    (List.zipWith memT ks (vs.map (vtext n))).take (x + 1) = (List.zipWith memT ks (vs.map (vtext n))).take x ++ [memT k (vtext n a)] := by
  apply take_get_snoc
  simp [List.getElem?_zipWith, hk, ha]

set_option maxHeartbeats 8000000 in
theorem pw_obj (n : Nat) (ih : WrP n) (ks : List ByteArray) (vs : List (VT n)) (sl : Value) (xs : List Value) (w : World) (N : Nat) (out : Value) (l : List UInt8) (hmem : Mem w sl ks xs) (hlN : ∀ g, sl.ownBlock = some g → g < N) (hall : All2 (RefP n w (fun m => m < N)) vs xs) (hok : ∀ x ∈ vs, VOk n x) (hkok : ∀ k ∈ ks, k.size ≤ 100000) (hN : N ≤ w.heap.size) (hown : OB w N out l) (hp : Pow10 N w)
    (hlen : l.length + (123 :: itemsF true (List.zipWith memT ks (vs.map (vtext n))) ++ [125]).length ≤ 600000) :
    Calls Tryz.prog 35 #[out, sl] w fun e w' => ∃ out', e = .returned out' ∧ OB w' N out' (l ++ (123 :: itemsF true (List.zipWith memT ks (vs.map (vtext n))) ++ [125])) ∧ Below N w w' ∧ N ≤ w'.heap.size := by
  have hmax := hmem.maxlen
  have hvl := hall.length
  have hkl := hmem.1
  have hform := hmem.len
  have HALL : Hid (All2 (RefP n w (fun m => m < N)) vs xs) := hall
  have HOK : Hid (∀ x ∈ vs, VOk n x) := hok
  have HKOK : Hid (∀ k ∈ ks, k.size ≤ 100000) := hkok
  have HIH : Hid (WrP n) := ih
  have HVL : Hid (vs.length = xs.length ∧ ks.length = xs.length) := ⟨hvl, hkl⟩
  have HPW : Hid (Pow10 N w) := hp
  obtain ⟨Z, hZ⟩ : ∃ Z, Z = List.zipWith memT ks (vs.map (vtext n)) := ⟨_, rfl⟩
  have HZ : Hid (Z = List.zipWith memT ks (vs.map (vtext n))) := hZ
  rw [← hZ] at hlen ⊢
  have HZL : Hid (Z.length = xs.length) := by show _ = _; rw [hZ, List.length_zipWith, List.length_map]; omega
  have HLEN : Hid (l.length + (123 :: itemsF true Z ++ [125]).length ≤ 600000) := hlen
  unfold maxLen at hmax
  have hll : l.length ≤ 599998 := by have := HLEN.out; simp at this; omega
  obtain ⟨P, hP⟩ : ∃ P, P = l ++ (123 :: itemsF true Z ++ [125]) := ⟨_, rfl⟩
  have HP : Hid (P = l ++ (123 :: itemsF true Z ++ [125])) := hP
  rw [← hP]
  have HC : Hid (∀ g cap, sl = .slice (some ⟨g, 0, none⟩) xs.length cap → g < N ∧ (∀ i k, ks[i]? = some k → w.cell? ⟨g, i * 2, none⟩ = some (.string k)) ∧ ∀ i u, xs[i]? = some u → w.cell? ⟨g, i * 2 + 1, none⟩ = some u) := by
    intro g cap e
    subst e
    exact ⟨hlN g rfl, fun i k h => hmem.get (mv_key ks xs i k hkl h), fun i u h => hmem.get (mv_val ks xs i u hkl h)⟩
  rcases hform with ⟨rfl, hnil⟩ | ⟨gl, capl, rfl, hcl⟩
  · subst hnil
    have hzn : Z = [] := List.eq_nil_of_length_eq_zero (by simpa using HZL.out)
    have HF : Hid (P = l ++ [123] ++ [125]) := by show _ = _; rw [HP.out, hzn]; simp [itemsF]
    clear hmem hlN hall hok hkok ih hvl hkl hlen hP hp hzn HALL HC hZ
    go_enter Tryz.func35, Tryz.ntmps35
    go_wp2_with (at_builtin; refine app_bytes rfl (.tmp 7) (.tmp 8) rfl N out l rfl ?h1 _ _ _ [123] rfl rfl ?h2 ?h3 ?h4 ?_)
    case h1 => exact hown.alloc _
    case h2 => exact one_new rfl _ _ rfl
    case h3 => simp; omega
    case h4 => simp; omega
    intro v1 w1 hown1 hgr1
    have hbel1 : Below N w w1 := ((Below.refl N w).alloc hN _).grown hgr1 (by simp; omega) hown.below
    have hsz1 : N ≤ w1.heap.size := by have := hgr1.size; simp at this; omega
    clear hgr1
    go_wp2_with fail
    go_loopg [0, 12] 1 (fun g ov iv wr => ov = v1 ∧ iv = .int .i64 0 ∧ wr = w1)
    case atStart => exact ⟨rfl, rfl, rfl⟩
    case round =>
      obtain ⟨rfl, rfl, rfl⟩ := hrel
      go_wp2_with (at_builtin; refine app_bytes rfl (.tmp 34) (.tmp 35) rfl N _ (l ++ [123]) rfl ?j1 _ _ _ [125] rfl rfl ?j2 ?j3 ?j4 ?_)
      case j1 => exact hown1.alloc _
      case j2 => exact one_new rfl _ _ rfl
      case j3 => simp; omega
      case j4 => simp; omega
      intro v3 w3 hown3 hgr3
      have hbel3 : Below N wr w3 := ((Below.refl N wr).alloc hsz1 _).grown hgr3 (by simp; omega) hown1.below
      have hsz3 : N ≤ w3.heap.size := by have := hgr3.size; simp at this; omega
      have hown3' : OB w3 N v3 P := by rw [HF.out]; simpa using hown3
      clear hgr3 hown3
      go_wp2
      go_ret
      exact ⟨v3, rfl, hown3', hbel1.trans hbel3, hsz3⟩
  · have hglN : gl < N := hlN gl rfl
    clear hmem hlN hall hok hkok ih hvl hkl hlen hP hp hZ
    go_enter Tryz.func35, Tryz.ntmps35
    go_wp2_with (at_builtin; refine app_bytes rfl (.tmp 7) (.tmp 8) rfl N out l rfl ?h1 _ _ _ [123] rfl rfl ?h2 ?h3 ?h4 ?_)
    case h1 => exact hown.alloc _
    case h2 => exact one_new rfl _ _ rfl
    case h3 => simp; omega
    case h4 => simp; omega
    intro v1 w1 hown1 hgr1
    have hbel1 : Below N w w1 := ((Below.refl N w).alloc hN _).grown hgr1 (by simp; omega) hown.below
    have hsz1 : N ≤ w1.heap.size := by have := hgr1.size; simp at this; omega
    clear hgr1
    go_wp2_with fail
    go_loopg [0, 12] (xs.length + 1) (fun g ov iv wr => ∃ x : Nat, x ≤ xs.length ∧ g = xs.length + 1 - x ∧ iv = .int .i64 x ∧ OB wr N ov (l ++ 123 :: itemsF true (Z.take x)) ∧ Below N w wr ∧ N ≤ wr.heap.size)
    case atStart => exact ⟨0, by omega, by omega, rfl, by simpa [itemsF] using hown1, hbel1, hsz1⟩
    case round =>
      obtain ⟨x, hx, hg, rfl, hown2, hbel, hsz⟩ := hrel
      have HG : Hid (gk = xs.length + 1 - x) := hg
      clear hown1 hbel1 hsz1 hg
      obtain ⟨L, hL⟩ : ∃ L, L = l ++ 123 :: itemsF true (Z.take x) := ⟨_, rfl⟩
      rw [← hL] at hown2
      have HL : Hid (L = l ++ 123 :: itemsF true (Z.take x)) := hL
      have hLl : L.length ≤ 599999 := by
        have h1 := HLEN.out
        have h2 := itemsF_le true Z x
        rw [List.length_append, List.length_cons, List.length_singleton] at h1
        rw [hL, List.length_append, List.length_cons]; omega
      clear hL
      by_cases hlt : x < xs.length
      · obtain ⟨a, u, ha, hu, hab⟩ := HALL.out.get x (by rw [HVL.out.1]; exact hlt)
        obtain ⟨kx, hkx⟩ : ∃ kx, ks[x]? = some kx := ⟨ks[x]'(by have := HVL.out.2; omega), List.getElem?_eq_getElem _⟩
        have hcc := HC.out gl capl rfl
        have cu := (hbel.cell (p := ⟨gl, x * 2 + 1, none⟩) hcc.1).trans (hcc.2.2 x u hu)
        have ck := (hbel.cell (p := ⟨gl, x * 2, none⟩) hcc.1).trans (hcc.2.1 x kx hkx)
        have HAB : Hid (RefP n wr (fun m => m < N) a u) := RefP.keep n hab (fun k hk _ => ⟨hbel.block k hk, hk⟩)
        have hkk : kx.size ≤ 100000 := HKOK.out kx (List.mem_of_getElem? hkx)
        have HNX : Hid (l ++ 123 :: itemsF true (Z.take (x + 1)) = L ++ ((if x = 0 then [] else [44]) ++ (quoteB kx.data.toList ++ [58] ++ vtext n a))) := by
          show _ = _
          have hz : Z.take (x + 1) = Z.take x ++ [memT kx (vtext n a)] := by rw [HZ.out]; exact zip_snoc ks vs x kx a hkx ha
          rw [hz, itemsF_snoc, HL.out, memT]
          by_cases hx0 : x = 0
          · subst hx0; simp [itemsF]
          · rw [if_neg hx0]
            have : (Z.take x).isEmpty = false := by
              have h1 : Z.length = xs.length := HZL.out
              rw [List.isEmpty_eq_false_iff]; intro e
              have h2 := congrArg List.length e
              rw [List.length_take, List.length_nil] at h2; omega
            rw [this]; simp
        have HLB : Hid ((L ++ ((if x = 0 then [] else [44]) ++ (quoteB kx.data.toList ++ [58] ++ vtext n a))).length ≤ 599999) := by
          show _ ≤ _
          have h1 := HLEN.out
          have h2 := itemsF_le true Z (x + 1)
          rw [List.length_append, List.length_cons, List.length_singleton] at h1
          rw [← HNX.out, List.length_append, List.length_cons]; omega
        have HOA : Hid (VOk n a) := HOK.out a (List.mem_of_getElem? ha)
        have HPr : Hid (Pow10 N wr) := HPW.out.on hbel
        have hua : u = .nilIface ∨ ∃ t v, u = .iface t v := RefP.isif n hab
        clear hcc hab ha hu hkx
        obtain ⟨Q, hQ⟩ : ∃ Q, Q = quoteB kx.data.toList := ⟨_, rfl⟩
        have HQ : Hid (Q = quoteB kx.data.toList) := hQ
        rw [← hQ] at HNX HLB
        clear hQ
        by_cases hx0 : x = 0
        · subst hx0
          have HLB2 : Hid (L.length + Q.length + 1 + (vtext n a).length ≤ 599999) := by show _ ≤ _; have := HLB.out; simp at this; omega
          have HNX2 : Hid (l ++ 123 :: itemsF true (Z.take (0 + 1)) = L ++ Q ++ [58] ++ vtext n a) := by show _ = _; rw [HNX.out]; simp
          clear HNX HLB
          rcases hua with rfl | ⟨tu, vu, rfl⟩
          all_goals
            go_wp2_with fail
            refine (appendString_any kx _ N _ L ?a1 ?a2 hkk ?a3).mono ?_
            case a1 => simp; omega
            case a2 => exact hown2.alloc _
            case a3 => rw [← HQ.out]; have := HLB2.out; omega
            rintro e w4 ⟨o4, rfl, hown4, hbel4, hsz4, hK4⟩
            rw [← HQ.out] at hown4
            have hblk := hK4 wr.heap.size _ (heap_new (W := wr) rfl) (by simp) (by intro c fz e; injection e with _ e2; exact absurd e2 (by decide))
            have cu4 := cell1_of hblk
            have hbel4' : Below N wr w4 := ((Below.refl N wr).alloc hsz _).trans hbel4
            have hL4 : (L ++ Q).length ≤ 599999 := by have := HLB2.out; rw [List.length_append]; omega
            have HBLK := hid_of hblk
            clear hK4 hbel4 ck cu hblk
            go_wp2_with (at_builtin; refine app_bytes rfl (.tmp 26) (.tmp 27) rfl N _ (L ++ Q) rfl ?k1 _ _ _ [58] rfl rfl ?k2 ?k3 ?k4 ?_)
            case k1 => exact hown4.alloc _
            case k2 => exact one_new rfl _ _ rfl
            case k3 => rw [List.length_singleton]; omega
            case k4 => simp; omega
            intro v5 w5 hown5 hgr5
            have hbel5 : Below N w4 w5 := ((Below.refl N w4).alloc hsz4 _).grown hgr5 (by simp; omega) hown4.below
            have hsz5 : N ≤ w5.heap.size := by have := hgr5.size; simp at this; omega
            have hK5 : Lib.OthersKept 5 none w4 w5 := ob_kept ((Lib.OthersKept.refl _ _ w4).alloc _) (hown4.alloc _) hgr5
            have hblk5 := hK5 wr.heap.size _ HBLK.out (by simp) (by intro c fz e; injection e with _ e2; exact absurd e2 (by decide))
            have cu5 := cell1_of hblk5
            have HBw : Hid (Below N wr w5) := hbel4'.trans hbel5
            have HAB5 : Hid (RefP n w5 (fun m => m < N) a _) := RefP.keep n HAB.out (fun k hk _ => ⟨HBw.out.block k hk, hk⟩)
            have HO5 : Hid (OB w5 N v5 (L ++ Q ++ [58])) := by show OB _ _ _ _; simpa using hown5
            clear hgr5 hK5 hblk5 HBLK cu4 hbel4' hbel5 hown4
            go_wp2_with fail
            refine (HIH.out a _ w5 N _ (L ++ Q ++ [58]) HAB5.out HOA.out hsz5 HO5.out (HPr.out.on HBw.out) ?b1).mono ?_
            case b1 => have := HLB2.out; simp; omega
            rintro e w6 ⟨o6, rfl, hown6, hbel6, hsz6⟩
            go_wp2_with fail
            go_roundg (xs.length + 1 - (0 + 1))
            case measure => rw [HG.out]; omega
            case rel => exact ⟨0 + 1, by omega, rfl, by go_num, by rw [HNX2.out]; exact hown6, (hbel.trans HBw.out).trans hbel6, hsz6⟩
        · have hx1 : 0 < x := by omega
          have HLB2 : Hid (L.length + 1 + Q.length + 1 + (vtext n a).length ≤ 599999) := by show _ ≤ _; have := HLB.out; rw [if_neg hx0] at this; simp at this; omega
          have HNX2 : Hid (l ++ 123 :: itemsF true (Z.take (x + 1)) = L ++ [44] ++ Q ++ [58] ++ vtext n a) := by show _ = _; rw [HNX.out, if_neg hx0]; simp
          clear HNX HLB hx0
          rcases hua with rfl | ⟨tu, vu, rfl⟩
          all_goals
            go_wp2_with (at_builtin; refine app_bytes rfl (.tmp 19) (.tmp 20) rfl N _ L rfl ?c1 _ _ _ [44] rfl rfl ?c2 ?c3 ?c4 ?_)
            case c1 => exact (hown2.alloc _).alloc _
            case c2 => exact one_new (by simp) _ _ rfl
            case c3 => rw [List.length_singleton]; omega
            case c4 => simp; omega
            intro v3 w3 hown3 hgr3
            have hbel3 : Below N wr w3 := (((Below.refl N wr).alloc hsz _).alloc (by simp; omega) _).grown hgr3 (by simp; omega) hown2.below
            have hsz3 : N ≤ w3.heap.size := by have := hgr3.size; simp at this; omega
            have hblk3 := ob_kept (((Lib.OthersKept.refl _ _ _).alloc _)) ((hown2.alloc _).alloc _) hgr3 wr.heap.size _ (heap_new (W := wr) rfl) (by simp) (by intro c fz e; injection e with _ e2; exact absurd e2 (by decide))
            have ck3 := cell0_of hblk3
            have HBLK3 := hid_of hblk3
            have hL3 : (L ++ [44]).length + Q.length ≤ 599999 := by have := HLB2.out; rw [List.length_append, List.length_singleton]; omega
            clear hgr3 ck cu hblk3
            go_wp2_with fail
            refine (appendString_any kx w3 N _ (L ++ [44]) hsz3 hown3 hkk ?a3).mono ?_
            case a3 => rw [← HQ.out]; omega
            rintro e w4 ⟨o4, rfl, hown4, hbel4, hsz4, hK4⟩
            rw [← HQ.out] at hown4
            have hblk := hK4 wr.heap.size _ HBLK3.out (by simp) (by intro c fz e; injection e with _ e2; exact absurd e2 (by decide))
            have cu4 := cell1_of hblk
            have hbel4' : Below N wr w4 := hbel3.trans hbel4
            have hL4 : (L ++ [44] ++ Q).length ≤ 599999 := by rw [List.length_append]; omega
            have HBLK := hid_of hblk
            clear hK4 hbel4 hblk HBLK3 ck3
            go_wp2_with (at_builtin; refine app_bytes rfl (.tmp 26) (.tmp 27) rfl N _ (L ++ [44] ++ Q) rfl ?k1 _ _ _ [58] rfl rfl ?k2 ?k3 ?k4 ?_)
            case k1 => exact hown4.alloc _
            case k2 => exact one_new rfl _ _ rfl
            case k3 => rw [List.length_singleton]; omega
            case k4 => simp; omega
            intro v5 w5 hown5 hgr5
            have hbel5 : Below N w4 w5 := ((Below.refl N w4).alloc hsz4 _).grown hgr5 (by simp; omega) hown4.below
            have hsz5 : N ≤ w5.heap.size := by have := hgr5.size; simp at this; omega
            have hK5 : Lib.OthersKept 5 none w4 w5 := ob_kept ((Lib.OthersKept.refl _ _ w4).alloc _) (hown4.alloc _) hgr5
            have hblk5 := hK5 wr.heap.size _ HBLK.out (by simp) (by intro c fz e; injection e with _ e2; exact absurd e2 (by decide))
            have cu5 := cell1_of hblk5
            have HBw : Hid (Below N wr w5) := hbel4'.trans hbel5
            have HAB5 : Hid (RefP n w5 (fun m => m < N) a _) := RefP.keep n HAB.out (fun k hk _ => ⟨HBw.out.block k hk, hk⟩)
            have HO5 : Hid (OB w5 N v5 (L ++ [44] ++ Q ++ [58])) := by show OB _ _ _ _; simpa using hown5
            clear hgr5 hK5 hblk5 HBLK cu4 hbel4' hbel5 hown4 hbel3
            go_wp2_with fail
            refine (HIH.out a _ w5 N _ (L ++ [44] ++ Q ++ [58]) HAB5.out HOA.out hsz5 HO5.out (HPr.out.on HBw.out) ?b1).mono ?_
            case b1 => have := HLB2.out; simp; omega
            rintro e w6 ⟨o6, rfl, hown6, hbel6, hsz6⟩
            go_wp2_with fail
            go_roundg (xs.length + 1 - (x + 1))
            case measure => rw [HG.out]; omega
            case rel => exact ⟨x + 1, by omega, rfl, by go_num, by rw [HNX2.out]; exact hown6, (hbel.trans HBw.out).trans hbel6, hsz6⟩
      · have hxe : x = xs.length := by omega
        have HF : Hid (L ++ [125] = P) := by
          show _ = _
          rw [HP.out, HL.out, List.take_of_length_le (by rw [HZL.out]; omega)]; simp
        go_wp2_with (at_builtin; refine app_bytes rfl (.tmp 34) (.tmp 35) rfl N _ L rfl ?j1 _ _ _ [125] rfl rfl ?j2 ?j3 ?j4 ?_)
        case j1 => exact hown2.alloc _
        case j2 => exact one_new rfl _ _ rfl
        case j3 => simp; omega
        case j4 => simp; omega
        intro v3 w3 hown3 hgr3
        have hbel3 : Below N wr w3 := ((Below.refl N wr).alloc hsz _).grown hgr3 (by simp; omega) hown2.below
        have hsz3 : N ≤ w3.heap.size := by have := hgr3.size; simp at this; omega
        rw [HF.out] at hown3
        clear hgr3
        go_wp2
        go_ret
        exact ⟨v3, rfl, hown3, hbel.trans hbel3, hsz3⟩

end Go.Proofs.YtjaoocincdoaaaaGreatDoor

namespace Go.Proofs.YtjaoocincdoaaaaGreatDoor
open Go.RowKit J

set_option linter.unusedVariables false

set_option maxRecDepth 100000 in
set_option maxHeartbeats 4000000 in
theorem pw_all : ∀ n, WrP n
  | 0 => by
    intro v x w N out l href hok hN hown hp hlen
    have hx : x = plf v := href
    subst hx
    exact pw_leaf v w N out l hok hN hown hp hlen
  | n + 1 => by
    intro v x w N out l href hok hN hown hp hlen
    have ih := pw_all n
    match v, href, hok, hlen with
    | Sum.inl lf, href, hok, hlen =>
      have hx : x = plf lf := href
      subst hx
      exact pw_leaf lf w N out l hok hN hown hp hlen
    | Sum.inr (Sum.inl vs), href, hok, hlen =>
      obtain ⟨sl, xs, rfl, hrow, hlN, hall⟩ := href
      have HQ := hid_of (pw_list n ih vs sl xs w N out l hrow hlN hall hok hN hown hp hlen)
      have HT : Hid (vtext (n + 1) (Sum.inr (Sum.inl vs)) = 91 :: itemsF true (vs.map (vtext n)) ++ [93]) := rfl
      rw [HT.out]
      obtain ⟨P, hP⟩ : ∃ P, P = l ++ (91 :: itemsF true (vs.map (vtext n)) ++ [93]) := ⟨_, rfl⟩
      rw [← hP] at HQ ⊢
      have t1 := ta_LB
      have t2 := ta_LN
      have t3 := ta_LS
      have t4 := ta_LL
      clear hrow hlN hall hok hlen hown hp ih hP HT
      go_enter Tryz.func16, Tryz.ntmps16
      go_wp2_with fail
      refine HQ.out.mono ?_
      rintro e w2 ⟨o2, rfl, h2⟩
      go_wp2
      go_ret
      exact ⟨o2, rfl, h2⟩
    | Sum.inr (Sum.inr (ks, vs)), href, hok, hlen =>
      obtain ⟨sl, xs, rfl, hmem, hlN, hall⟩ := href
      have HQ := hid_of (pw_obj n ih ks vs sl xs w N out l hmem hlN hall hok.2 hok.1 hN hown hp hlen)
      have HT : Hid (vtext (n + 1) (Sum.inr (Sum.inr (ks, vs))) = 123 :: itemsF true (List.zipWith memT ks (vs.map (vtext n))) ++ [125]) := rfl
      rw [HT.out]
      obtain ⟨P, hP⟩ : ∃ P, P = l ++ (123 :: itemsF true (List.zipWith memT ks (vs.map (vtext n))) ++ [125]) := ⟨_, rfl⟩
      rw [← hP] at HQ ⊢
      have t1 := ta_OB
      have t2 := ta_ON
      have t3 := ta_OS
      have t4 := ta_OL
      have t5 := ta_OO
      clear hmem hlN hall hok hlen hown hp ih hP HT
      go_enter Tryz.func16, Tryz.ntmps16
      go_wp2_with fail
      refine HQ.out.mono ?_
      rintro e w2 ⟨o2, rfl, h2⟩
      go_wp2
      go_ret
      exact ⟨o2, rfl, h2⟩

set_option maxHeartbeats 1000000 in
theorem ptext_any (n : Nat) (v : VT n) (x : Value) (w : World) (href : RefP n w (fun m => m < w.heap.size) v x) (hok : VOk n v) (hp : Pow10 w.heap.size w) (hlen : (vtext n v).length ≤ 600000) :
    Calls Tryz.prog 9 #[x] w fun e w' => e = .returned (.string (bs (vtext n v))) ∧ Below w.heap.size w w' := by
  go_enter Tryz.func9, Tryz.ntmps9
  go_wp2_with fail
  refine (pw_all n v x w w.heap.size _ [] href hok (Nat.le_refl _) (OB.nil _ _) hp (by simpa using hlen)).mono ?_
  rintro e w1 ⟨o1, rfl, hown1, hbel1, hsz1⟩
  have hcv := conv_own hown1
  clear href hok hlen
  go_wp2
  go_ret
  exact ⟨by rfl, hbel1⟩

end Go.Proofs.YtjaoocincdoaaaaGreatDoor

namespace Go.Proofs.YtjaoocincdoaaaaGreatDoor
open Go.RowKit Go.Extern.Stop Go.Stop Go.Extern

set_option linter.unusedVariables false

/-! What the library's look at a type gives at these types. -/
theorem xTypeOfE (v : Value) (w : World) : (ReflectliteType.typeOf #[.iface 209 v]).run Tryz.prog w = .ok (.iface 95 (.agg #[.pointer (some ⟨16, 209, none⟩)])) w := by kernel_rfl
theorem xTypeOfA (v : Value) (w : World) : (ReflectliteType.typeOf #[.iface 40 v]).run Tryz.prog w = .ok (.iface 95 (.agg #[.pointer (some ⟨16, 40, none⟩)])) w := by kernel_rfl
def xCmpF : Array Value → Sem Value := ReflectliteType.method fun t => do Rtype.noPackHeld "Comparable" t; pure (.bool (← typeInfo t).comparable)
theorem xComparable (w : World) : (xCmpF #[.agg #[.pointer (some ⟨16, 209, none⟩)]]).run Tryz.prog w = .ok (.bool true) w := by kernel_rfl
theorem xMethodComparable (v : Value) (w : World) : (Go.method 346 95 v "Comparable").run Tryz.prog w = .ok (196, v) w := by kernel_rfl
theorem xComp : (Tryz.prog.info? 209).map (·.comparable) = some true := by kernel_rfl
theorem xSize : (Tryz.prog.info? 211).map (·.size) = some 1 := by kernel_rfl
theorem xNoIsE (v : Value) (xT : TypeId) (w : World) : (Instr.typeAssert (.iface 209 v) xT 106 true).run Tryz.prog w = .ok (.tuple #[.nilIface, .bool false]) w := run_typeAssert_lacksB Tryz.underlying106 (by kernel_rfl) (by kernel_rfl) v xT w
theorem xNoAsE (v : Value) (xT : TypeId) (w : World) : (Instr.typeAssert (.iface 209 v) xT 99 true).run Tryz.prog w = .ok (.tuple #[.nilIface, .bool false]) w := run_typeAssert_lacksB Tryz.underlying99 (by kernel_rfl) (by kernel_rfl) v xT w
theorem xNoUnwrapE (v : Value) (xT : TypeId) (w : World) : (Instr.typeAssert (.iface 209 v) xT 102 true).run Tryz.prog w = .ok (.tuple #[.nilIface, .bool false]) w := run_typeAssert_lacksB Tryz.underlying102 (by kernel_rfl) (by kernel_rfl) v xT w
theorem xNoUnwrapsE (v : Value) (xT : TypeId) (w : World) : (Instr.typeAssert (.iface 209 v) xT 103 true).run Tryz.prog w = .ok (.tuple #[.nilIface, .bool false]) w := run_typeAssert_lacksB Tryz.underlying103 (by kernel_rfl) (by kernel_rfl) v xT w
theorem xNoIsA (v : Value) (xT : TypeId) (w : World) : (Instr.typeAssert (.iface 40 v) xT 106 true).run Tryz.prog w = .ok (.tuple #[.nilIface, .bool false]) w := run_typeAssert_lacksB Tryz.underlying106 (by kernel_rfl) (by kernel_rfl) v xT w
theorem xHasUnwrapA (v : Value) (xT : TypeId) (w : World) : (Instr.typeAssert (.iface 40 v) xT 102 true).run Tryz.prog w = .ok (.tuple #[.iface 40 v, .bool true]) w := run_typeAssert_hasB Tryz.underlying102 (by kernel_rfl) v xT w
theorem xMethodUnwrap (v : Value) (w : World) : (Go.method 346 40 v "Unwrap").run Tryz.prog w = .ok (184, v) w := by kernel_rfl

/-- errors.Is(x, x), x a sentinel. -/
theorem is_same (a : Addr) (w : World) :
    Calls Tryz.prog 15 #[.iface 209 (.pointer (some a)), .iface 209 (.pointer (some a))] w fun e w' => e = .returned (.bool true) ∧ w' = w := by
  obtain ⟨i, hi, hcmp⟩ := Option.map_eq_some_iff.1 xComp
  obtain ⟨j, hj, hjs⟩ := Option.map_eq_some_iff.1 xSize
  have h8 := @run_callFunc_extern Tryz.prog 29 _ ReflectliteType.typeOf Tryz.func29 (by kernel_rfl) (by kernel_rfl) (by kernel_rfl) (by kernel_rfl)
  have h32 := @run_callFunc_extern Tryz.prog 196 _ xCmpF Tryz.func196 (by kernel_rfl) (by kernel_rfl) (by kernel_rfl) (by kernel_rfl)
  have tT := xTypeOfE
  have cT := xComparable
  have mR := xMethodComparable
  have heq := run_eql_iface_ptr_same (P := Tryz.prog) w a Tryz.underlying29 Tryz.underlying209 hi hcmp hj
  go_enter Tryz.func15, Tryz.ntmps15
  go_wp2
  refine wp_loop_rounds 1 ?_
  rw [rounds_succ]
  go_wp2
  go_ret
  exact ⟨rfl, rfl⟩

/-- errors.Is(x, y), two sentinels. -/
theorem is_other (a b : Addr) (ca cb : Array Value) (ta tb : TypeId) (w : World) (hne : a ≠ b) (ha : w.heap[a.block]? = some (.cells ca ta (0, 0))) (hb : w.heap[b.block]? = some (.cells cb tb (0, 0))) :
    Calls Tryz.prog 15 #[.iface 209 (.pointer (some a)), .iface 209 (.pointer (some b))] w fun e w' => e = .returned (.bool false) ∧ w' = w := by
  obtain ⟨i, hi, hcmp⟩ := Option.map_eq_some_iff.1 xComp
  obtain ⟨j, hj, hjs⟩ := Option.map_eq_some_iff.1 xSize
  have h8 := @run_callFunc_extern Tryz.prog 29 _ ReflectliteType.typeOf Tryz.func29 (by kernel_rfl) (by kernel_rfl) (by kernel_rfl) (by kernel_rfl)
  have h32 := @run_callFunc_extern Tryz.prog 196 _ xCmpF Tryz.func196 (by kernel_rfl) (by kernel_rfl) (by kernel_rfl) (by kernel_rfl)
  have tT := xTypeOfE
  have cT := xComparable
  have mR := xMethodComparable
  have nE := xNoIsE
  have uE := xNoUnwrapE
  have vE := xNoUnwrapsE
  have heq := run_eql_iface_ptr_other (P := Tryz.prog) w Tryz.underlying29 Tryz.underlying209 hi hcmp hj (by rw [hjs]; decide) hne ha hb
  go_enter Tryz.func15, Tryz.ntmps15
  go_wp2
  refine wp_loop_rounds 1 ?_
  rw [rounds_succ]
  go_wp2
  go_ret
  exact ⟨rfl, rfl⟩

/-- errors.Is(At{k, x}, x). -/
theorem is_at_same (k : Nat) (b : Addr) (w : World) :
    Calls Tryz.prog 15 #[errV b k, .iface 209 (.pointer (some b))] w fun e w' => e = .returned (.bool true) ∧ w' = w.alloc (.cells #[.int .i64 k, .iface 209 (.pointer (some b))] 40) := by
  rw [errV]
  obtain ⟨i, hi, hcmp⟩ := Option.map_eq_some_iff.1 xComp
  obtain ⟨j, hj, hjs⟩ := Option.map_eq_some_iff.1 xSize
  have h8 := @run_callFunc_extern Tryz.prog 29 _ ReflectliteType.typeOf Tryz.func29 (by kernel_rfl) (by kernel_rfl) (by kernel_rfl) (by kernel_rfl)
  have h32 := @run_callFunc_extern Tryz.prog 196 _ xCmpF Tryz.func196 (by kernel_rfl) (by kernel_rfl) (by kernel_rfl) (by kernel_rfl)
  have tT := xTypeOfE
  have cT := xComparable
  have mR := xMethodComparable
  have nW := xNoIsA
  have uW := xHasUnwrapA
  have mU := xMethodUnwrap
  have heq := run_eql_iface_ptr_same (P := Tryz.prog) (w.alloc (.cells #[.int .i64 k, .iface 209 (.pointer (some b))] 40)) b Tryz.underlying29 Tryz.underlying209 hi hcmp hj
  have hty := run_eql_iface_types (P := Tryz.prog) 40 209 (.agg #[.int .i64 k, .iface 209 (.pointer (some b))]) (.pointer (some b)) Tryz.underlying29 (by decide) w
  go_enter Tryz.func15, Tryz.ntmps15
  go_wp2
  refine wp_loop_rounds 2 ?_
  rw [rounds_succ]
  go_wp2
  rw [rounds_succ]
  go_wp2
  go_ret
  exact ⟨rfl, rfl⟩

/-- errors.Is(At{k, x}, y). -/
theorem is_at_other (k : Nat) (a b : Addr) (ca cb : Array Value) (ta tb : TypeId) (w : World) (hne : a ≠ b) (ha : w.heap[a.block]? = some (.cells ca ta (0, 0))) (hb : w.heap[b.block]? = some (.cells cb tb (0, 0))) :
    Calls Tryz.prog 15 #[errV a k, .iface 209 (.pointer (some b))] w fun e w' => e = .returned (.bool false) ∧ w' = w.alloc (.cells #[.int .i64 k, .iface 209 (.pointer (some a))] 40) := by
  rw [errV]
  obtain ⟨i, hi, hcmp⟩ := Option.map_eq_some_iff.1 xComp
  obtain ⟨j, hj, hjs⟩ := Option.map_eq_some_iff.1 xSize
  have h8 := @run_callFunc_extern Tryz.prog 29 _ ReflectliteType.typeOf Tryz.func29 (by kernel_rfl) (by kernel_rfl) (by kernel_rfl) (by kernel_rfl)
  have h32 := @run_callFunc_extern Tryz.prog 196 _ xCmpF Tryz.func196 (by kernel_rfl) (by kernel_rfl) (by kernel_rfl) (by kernel_rfl)
  have tT := xTypeOfE
  have cT := xComparable
  have mR := xMethodComparable
  have nE := xNoIsE
  have uE := xNoUnwrapE
  have vE := xNoUnwrapsE
  have nW := xNoIsA
  have uW := xHasUnwrapA
  have mU := xMethodUnwrap
  have ha' : (w.alloc (.cells #[.int .i64 k, .iface 209 (.pointer (some a))] 40)).heap[a.block]? = some (.cells ca ta (0, 0)) := heap_old ha
  have hb' : (w.alloc (.cells #[.int .i64 k, .iface 209 (.pointer (some a))] 40)).heap[b.block]? = some (.cells cb tb (0, 0)) := heap_old hb
  have heq := run_eql_iface_ptr_other (P := Tryz.prog) (w.alloc (.cells #[.int .i64 k, .iface 209 (.pointer (some a))] 40)) Tryz.underlying29 Tryz.underlying209 hi hcmp hj (by rw [hjs]; decide) hne ha' hb'
  have hty := run_eql_iface_types (P := Tryz.prog) 40 209 (.agg #[.int .i64 k, .iface 209 (.pointer (some a))]) (.pointer (some b)) Tryz.underlying29 (by decide) w
  clear ha' hb'
  go_enter Tryz.func15, Tryz.ntmps15
  go_wp2
  refine wp_loop_rounds 2 ?_
  rw [rounds_succ]
  go_wp2
  rw [rounds_succ]
  go_wp2
  go_ret
  exact ⟨rfl, rfl⟩

end Go.Proofs.YtjaoocincdoaaaaGreatDoor

namespace Go.Proofs.YtjaoocincdoaaaaGreatDoor
open Go.RowKit Go.Extern.Stop Go.Stop Go.Extern

set_option linter.unusedVariables false

theorem yValueOfP (t : Addr) (w : World) : (ReflectliteValue.unpack (.iface 42 (.pointer (some t)))).run Tryz.prog w
    = .ok (.agg #[.pointer (some ⟨16, 42, none⟩), .pointer (some ⟨w.heap.size, 0, none⟩), .int .u64 150]) (w.alloc (.cells #[.pointer (some t)] 42)) := by kernel_rfl
theorem yTypeP (a : Addr) (w : World) : (ReflectliteValue.methodAny (ReflectliteValue.valueError "reflectlite.Value.Type" 0) (fun t _ _ _ => ReflectliteType.toType t) #[.agg #[.pointer (some ⟨16, 42, none⟩), .pointer (some a), .int .u64 150]]).run Tryz.prog w
    = .ok (.iface 95 (.agg #[.pointer (some ⟨16, 42, none⟩)])) w := by kernel_rfl
theorem yMethodKind (h : Value) (w : World) : (Go.method 346 95 (.agg #[h]) "Kind").run Tryz.prog w = .ok (180, h) w := by kernel_rfl
theorem yKindP (w : World) : ((ReflectliteType.abiMethod fun t => (fun a : Nat => Value.int IntKind.u8 (a : Int)) <$> Rtype.kind t) #[.pointer (some ⟨16, 42, none⟩)]).run Tryz.prog w = .ok (.int .u8 22) w := by kernel_rfl
theorem yKindA (w : World) : ((ReflectliteType.abiMethod fun t => (fun a : Nat => Value.int IntKind.u8 (a : Int)) <$> Rtype.kind t) #[.pointer (some ⟨16, 40, none⟩)]).run Tryz.prog w = .ok (.int .u8 25) w := by kernel_rfl
theorem yMeth (z : Sem Value) (f : TypeId → Addr → Nat → Nat → Sem Value) (v : Value) :
    ReflectliteValue.method z f #[v] = (do match ← ReflectliteValue.parts v with | none => z | some (t, a, fl) => f t a fl (fl % 32)) := rfl
theorem yPartsP (a : Addr) (w : World) : (ReflectliteValue.parts (.agg #[.pointer (some ⟨16, 42, none⟩), .pointer (some a), .int .u64 150])).run Tryz.prog w = .ok (some (42, a, 150)) w := by kernel_rfl
theorem yIsNilP (a p : Addr) (W : World) (ha : W.cell? a = some (.pointer (some p))) :
    (ReflectliteValue.method (ReflectliteValue.valueError "reflectlite.Value.IsNil" 0) ReflectliteValue.isNil #[.agg #[.pointer (some ⟨16, 42, none⟩), .pointer (some a), .int .u64 150]]).run Tryz.prog W = .ok (.bool false) W := by
  rw [yMeth]
  simp only [Sem.run_bind, yPartsP, Result.andThen]
  simp [ReflectliteValue.isNil, loadVar, isAgg, underlying, Tryz.underlying42, ha, Result.andThen]
theorem yMethodElem (h : Value) (w : World) : (Go.method 346 95 (.agg #[h]) "Elem").run Tryz.prog w = .ok (197, .agg #[h]) w := by kernel_rfl
theorem yMethodImplements (h : Value) (w : World) : (Go.method 346 95 (.agg #[h]) "Implements").run Tryz.prog w = .ok (198, .agg #[h]) w := by kernel_rfl
theorem yMethodAssignableTo (h : Value) (w : World) : (Go.method 346 95 (.agg #[h]) "AssignableTo").run Tryz.prog w = .ok (195, .agg #[h]) w := by kernel_rfl
theorem yElemP (w : World) : (ReflectliteType.method ReflectliteType.elem #[.agg #[.pointer (some ⟨16, 42, none⟩)]]).run Tryz.prog w = .ok (.iface 95 (.agg #[.pointer (some ⟨16, 40, none⟩)])) w := by kernel_rfl
theorem yImplementsA (w : World) : (ReflectliteType.relation "Implements" ReflectliteType.implements_ #[.agg #[.pointer (some ⟨16, 40, none⟩)], .iface 95 (.agg #[.pointer (some ⟨16, 29, none⟩)])]).run Tryz.prog w = .ok (.bool true) w := by kernel_rfl
theorem yAssignableA (w : World) : (ReflectliteType.relation "AssignableTo" ReflectliteType.assignableTo #[.agg #[.pointer (some ⟨16, 40, none⟩)], .iface 95 (.agg #[.pointer (some ⟨16, 40, none⟩)])]).run Tryz.prog w = .ok (.bool true) w := by kernel_rfl
theorem yAssignableE (w : World) : (ReflectliteType.relation "AssignableTo" ReflectliteType.assignableTo #[.agg #[.pointer (some ⟨16, 209, none⟩)], .iface 95 (.agg #[.pointer (some ⟨16, 40, none⟩)])]).run Tryz.prog w = .ok (.bool false) w := by kernel_rfl
theorem yValueOfA (x y : Value) (w : World) : (ReflectliteValue.unpack (.iface 40 (.agg #[x, y]))).run Tryz.prog w
    = .ok (.agg #[.pointer (some ⟨16, 40, none⟩), .pointer (some ⟨w.heap.size, 0, none⟩), .int .u64 153]) (w.alloc (.cells #[x, y] 40)) := by kernel_rfl
theorem yElemOfP (w : World) : (Rtype.elem? 42).run Tryz.prog w = .ok (some 40) w := by kernel_rfl
theorem yMkA (p : Addr) (w : World) : (ReflectliteValue.mk 40 p ReflectliteValue.flagAddr).run Tryz.prog w = .ok (.agg #[.pointer (some ⟨16, 40, none⟩), .pointer (some p), .int .u64 409]) w := by kernel_rfl
theorem yElemVP (a p : Addr) (W : World) (ha : W.cell? a = some (.pointer (some p))) :
    (ReflectliteValue.method (ReflectliteValue.valueError "reflectlite.Value.Elem" 0) ReflectliteValue.elem #[.agg #[.pointer (some ⟨16, 42, none⟩), .pointer (some a), .int .u64 150]]).run Tryz.prog W
      = .ok (.agg #[.pointer (some ⟨16, 40, none⟩), .pointer (some p), .int .u64 409]) W := by
  rw [yMeth]
  simp only [Sem.run_bind, yPartsP, Result.andThen]
  simp [ReflectliteValue.elem, loadVar, isAgg, underlying, Tryz.underlying42, ha, Result.andThen, yElemOfP, yMkA]
theorem ySet (v x : Value) : ReflectliteValue.set #[v, x] = (do
    let (some (dst, a, fl), some (src, b, _)) := (← ReflectliteValue.parts v, ← ReflectliteValue.parts x)
      | unsupported (.noEntry "extern/(internal/reflectlite.Value).Set.zeroValue")
    if fl / ReflectliteValue.flagAddr % 2 == 0 then unsupported (.noEntry "extern/(internal/reflectlite.Value).Set.unaddressable")
    let val ← loadVar src b
    if ← Rtype.directlyAssignable dst src then storeVar dst a val
    else if ← Rtype.implements dst src then
      if (← Rtype.kind src) == 20 then
        match val with
        | .nilIface => unsupported (.noEntry "extern/reflectlite: a nil value of one interface type handed on as a value of another")
        | _ => storeVar dst a val
      else storeVar dst a (.iface src val)
    else panicString ("reflectlite.Set: value of type " ++ (← Rtype.spelt src) ++ " is not assignable to type " ++ (← Rtype.spelt dst))
    pure (.tuple #[])) := rfl
theorem yPartsAa (a : Addr) (w : World) : (ReflectliteValue.parts (.agg #[.pointer (some ⟨16, 40, none⟩), .pointer (some a), .int .u64 409])).run Tryz.prog w = .ok (some (40, a, 409)) w := by kernel_rfl
theorem yPartsA (a : Addr) (w : World) : (ReflectliteValue.parts (.agg #[.pointer (some ⟨16, 40, none⟩), .pointer (some a), .int .u64 153])).run Tryz.prog w = .ok (some (40, a, 153)) w := by kernel_rfl
theorem yDirectA (w : World) : (Rtype.directlyAssignable 40 40).run Tryz.prog w = .ok true w := by kernel_rfl
theorem yLoadA (b : Nat) (x y : Value) (t : TypeId) (W : World) (hb : W.heap[b]? = some (.cells #[x, y] t (0, 0))) : (loadVar 40 ⟨b, 0, none⟩).run Tryz.prog W = .ok (.agg #[x, y]) W := by
  have c0 : W.cell? ⟨b, 0, none⟩ = some x := by simp [World.cell?, hb]
  have c1 : W.cell? ⟨b, 1, none⟩ = some y := by simp [World.cell?, hb]
  simp [loadVar, isAgg, underlying, Tryz.underlying40, loadCells, loadCellsFrom, Addr.add, c0, c1, Result.andThen]
/-- (Value).Set: the fault.At at t gets what the Value's own variable holds. -/
theorem ySetA (t b : Nat) (x y o0 o1 : Value) (W : World) (hx : x.oneCell' = true) (hy : y.oneCell' = true) (hb : W.heap[b]? = some (.cells #[x, y] 40 (0, 0))) (ht : W.heap[t]? = some (.cells #[o0, o1] 40 (0, 0))) :
    (ReflectliteValue.set #[.agg #[.pointer (some ⟨16, 40, none⟩), .pointer (some ⟨t, 0, none⟩), .int .u64 409], .agg #[.pointer (some ⟨16, 40, none⟩), .pointer (some ⟨b, 0, none⟩), .int .u64 153]]).run Tryz.prog W
      = .ok (.tuple #[]) ((W.setCell ⟨t, 0, none⟩ x).setCell ⟨t, 1, none⟩ y) := by
  have c0 : W.cell? ⟨t, 0, none⟩ = some o0 := by simp [World.cell?, ht]
  have f0 : W.frozen? ⟨t, 0, none⟩ = false := by simp [World.frozen?, ht]
  have ht1 : (W.setCell ⟨t, 0, none⟩ x).heap[t]? = some (.cells #[x, o1] 40 (0, 0)) := heap_setCell_at ht x
  have c1 : (W.setCell ⟨t, 0, none⟩ x).cell? ⟨t, 1, none⟩ = some o1 := by simp [World.cell?, ht1]
  have f1 : (W.setCell ⟨t, 0, none⟩ x).frozen? ⟨t, 1, none⟩ = false := by simp [World.frozen?, ht1]
  rw [ySet]
  simp only [Sem.run_bind, yPartsAa, yPartsA, Result.andThen]
  simp [ReflectliteValue.flagAddr, yLoadA b x y _ W hb, Result.andThen, yDirectA, storeVar, Value.cells, storeCells, Addr.add]
  rw [run_store Tryz.prog W ⟨t, 0, none⟩ _ _ hx]
  simp [c0, f0]
  rw [run_store Tryz.prog _ ⟨t, 1, none⟩ _ _ hy]
  simp [c1, f1]

end Go.Proofs.YtjaoocincdoaaaaGreatDoor
