/- The document's strings, written. The document's values, written: the leaves. The document's values, written: lists and objects. The document's values, written: objects. -/
import Derived.Test.YtjaoocincdoaaaaGreatDoorA06
namespace Go.Proofs.YtjaoocincdoaaaaGreatDoor
open Go.RowKit J

set_option linter.unusedVariables false

def hxd : ByteArray := ⟨#[48, 49, 50, 51, 52, 53, 54, 55, 56, 57, 97, 98, 99, 100, 101, 102]⟩
def hxc (d : Nat) : UInt8 := hxd.data.toList.getD d 0

/-- A byte of a string, written. -/
def qb (c : UInt8) : List UInt8 :=
  if c = 34 then [92, 34] else if c = 92 then [92, 92] else if c = 8 then [92, 98] else if c = 12 then [92, 102] else if c = 10 then [92, 110] else if c = 13 then [92, 114] else if c = 9 then [92, 116]
  else if c.toNat < 32 then [92, 117, 48, 48, hxc (c.toNat / 16), hxc (c.toNat % 16)] else [c]
def quoteB (l : List UInt8) : List UInt8 := 34 :: l.flatMap qb ++ [34]

theorem q_cases (c : UInt8) : c = 34 ∨ c = 92 ∨ c = 8 ∨ c = 12 ∨ c = 10 ∨ c = 13 ∨ c = 9 ∨ (c ≠ 34 ∧ c ≠ 92 ∧ c ≠ 8 ∧ c ≠ 12 ∧ c ≠ 10 ∧ c ≠ 13 ∧ c ≠ 9) := by
  by_cases h1 : c = 34
  · exact Or.inl h1
  by_cases h2 : c = 92
  · exact Or.inr (Or.inl h2)
  by_cases h3 : c = 8
  · exact Or.inr (Or.inr (Or.inl h3))
  by_cases h4 : c = 12
  · exact Or.inr (Or.inr (Or.inr (Or.inl h4)))
  by_cases h5 : c = 10
  · exact Or.inr (Or.inr (Or.inr (Or.inr (Or.inl h5))))
  by_cases h6 : c = 13
  · exact Or.inr (Or.inr (Or.inr (Or.inr (Or.inr (Or.inl h6)))))
  by_cases h7 : c = 9
  · exact Or.inr (Or.inr (Or.inr (Or.inr (Or.inr (Or.inr (Or.inl h7))))))
  · exact Or.inr (Or.inr (Or.inr (Or.inr (Or.inr (Or.inr (Or.inr ⟨h1, h2, h3, h4, h5, h6, h7⟩))))))
theorem qb_else {c : UInt8} (h : c ≠ 34 ∧ c ≠ 92 ∧ c ≠ 8 ∧ c ≠ 12 ∧ c ≠ 10 ∧ c ≠ 13 ∧ c ≠ 9) : qb c = if c.toNat < 32 then [92, 117, 48, 48, hxc (c.toNat / 16), hxc (c.toNat % 16)] else [c] := by
  obtain ⟨h1, h2, h3, h4, h5, h6, h7⟩ := h
  rw [qb, if_neg h1, if_neg h2, if_neg h3, if_neg h4, if_neg h5, if_neg h6, if_neg h7]
theorem qb_len (c : UInt8) : (qb c).length ≤ 6 := by
  rcases q_cases c with rfl | rfl | rfl | rfl | rfl | rfl | rfl | h
  iterate 7 decide
  rw [qb_else h]; split <;> simp
theorem flat_len (l : List UInt8) : (l.flatMap qb).length ≤ 6 * l.length := by
  induction l with
  | nil => simp
  | cons c l ih => have := qb_len c; rw [List.flatMap_cons, List.length_append, List.length_cons]; omega

theorem take_snoc2 (s : ByteArray) (k : Nat) (h : k < s.size) : s.data.toList.take (k + 1) = s.data.toList.take k ++ [s[k]] := by
  rw [List.take_succ_eq_append_getElem (by simpa using h)]; rfl

theorem two_new {W : World} {n : Nat} (hW : W.heap.size = n) (a b : UInt8) (t : TypeId) {x y : Int} (hx : (a.toNat : Int) = x) (hy : (b.toNat : Int) = y) : ∀ j u, (bv [a, b])[j]? = some u → (W.alloc (.cells #[.int .u8 x, .int .u8 y] t)).cell? ((⟨n, 0, none⟩ : Addr).add j) = some u := by
  subst hW; subst hx; subst hy
  exact new_cells W [a, b] t

theorem six_new (W : World) (q1 q2 : Nat) (h1 : q1 < 16) (h2 : q2 < 16) (g1 : q1 < (⟨#[48, 49, 50, 51, 52, 53, 54, 55, 56, 57, 97, 98, 99, 100, 101, 102]⟩ : ByteArray).size) (g2 : q2 < (⟨#[48, 49, 50, 51, 52, 53, 54, 55, 56, 57, 97, 98, 99, 100, 101, 102]⟩ : ByteArray).size) :
    ∀ j u, (bv [92, 117, 48, 48, hxc q1, hxc q2])[j]? = some u → (W.alloc (.cells #[.int .u8 92, .int .u8 117, .int .u8 48, .int .u8 48, .int .u8 (((⟨#[48, 49, 50, 51, 52, 53, 54, 55, 56, 57, 97, 98, 99, 100, 101, 102]⟩ : ByteArray)[q1]'g1).toNat : Int), .int .u8 (((⟨#[48, 49, 50, 51, 52, 53, 54, 55, 56, 57, 97, 98, 99, 100, 101, 102]⟩ : ByteArray)[q2]'g2).toNat : Int)] 5)).cell? ((⟨W.heap.size, 0, none⟩ : Addr).add j) = some u := by
  have key : ∀ (q : Nat) (h : q < 16) (g : q < (⟨#[48, 49, 50, 51, 52, 53, 54, 55, 56, 57, 97, 98, 99, 100, 101, 102]⟩ : ByteArray).size), (⟨#[48, 49, 50, 51, 52, 53, 54, 55, 56, 57, 97, 98, 99, 100, 101, 102]⟩ : ByteArray)[q]'g = hxc q := by
    intro q h g
    rcases (show q = 0 ∨ q = 1 ∨ q = 2 ∨ q = 3 ∨ q = 4 ∨ q = 5 ∨ q = 6 ∨ q = 7 ∨ q = 8 ∨ q = 9 ∨ q = 10 ∨ q = 11 ∨ q = 12 ∨ q = 13 ∨ q = 14 ∨ q = 15 from by omega) with rfl | rfl | rfl | rfl | rfl | rfl | rfl | rfl | rfl | rfl | rfl | rfl | rfl | rfl | rfl | rfl <;> rfl
  rw [key q1 h1 g1, key q2 h2 g2]
  exact new_cells W [92, 117, 48, 48, hxc q1, hxc q2] 5

set_option maxRecDepth 100000 in
set_option maxHeartbeats 8000000 in
theorem quote_any (s : ByteArray) (w : World) (hs : s.size ≤ 100000) :
    Calls Tryz.prog 55 #[.string s] w fun e w' => e = .returned (.string (bs (quoteB s.data.toList))) ∧ Below w.heap.size w w' := by
  obtain ⟨N, hN⟩ : ∃ N, N = w.heap.size := ⟨_, rfl⟩
  have HN : Hid (N = w.heap.size) := hN
  have hNle : N ≤ w.heap.size := by omega
  rw [← hN]
  clear hN
  go_enter Tryz.func55, Tryz.ntmps55
  go_wp2_with (at_builtin; refine app_bytes rfl (.tmp 8) (.tmp 9) rfl N (.slice none 0 0) [] rfl ?h1 _ _ _ [34] rfl rfl ?h2 ?h3 ?h4 ?_)
  case h1 => exact OB.nil _ _
  case h2 => exact one_new rfl _ _ rfl
  case h3 => simp
  case h4 => simp; omega
  intro v1 w1 hown1 hgr1
  have hbel1 : Below N w w1 := ((Below.refl N w).alloc hNle _).grown hgr1 (by simp; omega) (by intro k hk; simp [Value.ownBlock] at hk)
  have hsz1 : N ≤ w1.heap.size := by have := hgr1.size; simp at this; omega
  clear hgr1
  go_wp2_with fail
  go_loopg [4, 5] (s.size + 1) (fun g ov iv wr => ∃ x : Nat, x ≤ s.size ∧ g = s.size + 1 - x ∧ iv = .int .i64 x ∧ OB wr N ov (34 :: (s.data.toList.take x).flatMap qb) ∧ Below N w wr ∧ N ≤ wr.heap.size)
  case atStart => exact ⟨0, by omega, by omega, rfl, by simpa using hown1, hbel1, hsz1⟩
  case round =>
    obtain ⟨x, hx, hg, rfl, hown, hbel, hsz⟩ := hrel
    have HG : Hid (gk = s.size + 1 - x) := hg
    clear hown1 hbel1 hsz1 hg
    obtain ⟨L, hL⟩ : ∃ L, L = 34 :: (s.data.toList.take x).flatMap qb := ⟨_, rfl⟩
    rw [← hL] at hown
    have hLl : L.length ≤ 6 * 100000 + 1 := by
      rw [hL]
      have := flat_len (s.data.toList.take x)
      have h2 : (s.data.toList.take x).length ≤ x := List.length_take_le _ _
      simp only [List.length_cons]; omega
    have HL : Hid (L = 34 :: (s.data.toList.take x).flatMap qb) := hL
    clear hL
    by_cases hlt : x < s.size
    · obtain ⟨c, hc⟩ : ∃ c, c = s[x]'hlt := ⟨_, rfl⟩
      have HN2 : Hid (L ++ qb c = 34 :: (s.data.toList.take (x + 1)).flatMap qb) := by
        show _ = _
        rw [HL.out, take_snoc2 s x hlt, List.flatMap_append, hc]; simp
      have HCC : Hid (s[x]'hlt = c) := hc.symm
      clear hc
      rcases q_cases c with rfl | rfl | rfl | rfl | rfl | rfl | rfl | hn
      · have hcx : s[x]'hlt = 34 := HCC.out
        go_wp2_with (at_builtin; refine app_bytes rfl (.tmp 42) (.tmp 44) rfl N u4 L rfl ?h1 _ _ _ [92, 34] rfl rfl ?h2 ?h3 ?h4 ?_)
        case h1 => exact hown.alloc _
        case h2 => exact two_new rfl _ _ _ rfl rfl
        case h3 => simp; omega
        case h4 => simp; omega
        intro v' w4 hown4 hgr
        have hB : Below N w w4 := (hbel.alloc hsz _).grown hgr (by simp; omega) hown.below
        have hsz4 : N ≤ w4.heap.size := by have := hgr.size; simp at this; omega
        clear hgr
        go_wp2
        go_roundg (s.size + 1 - (x + 1))
        case measure => rw [HG.out]; omega
        case rel => exact ⟨x + 1, by omega, rfl, by go_num, by rw [← HN2.out]; exact hown4, hB, hsz4⟩
      · have hcx : s[x]'hlt = 92 := HCC.out
        go_wp2_with (at_builtin; refine app_bytes rfl (.tmp 42) (.tmp 44) rfl N u4 L rfl ?h1 _ _ _ [92, 92] rfl rfl ?h2 ?h3 ?h4 ?_)
        case h1 => exact hown.alloc _
        case h2 => exact two_new rfl _ _ _ rfl rfl
        case h3 => simp; omega
        case h4 => simp; omega
        intro v' w4 hown4 hgr
        have hB : Below N w w4 := (hbel.alloc hsz _).grown hgr (by simp; omega) hown.below
        have hsz4 : N ≤ w4.heap.size := by have := hgr.size; simp at this; omega
        clear hgr
        go_wp2
        go_roundg (s.size + 1 - (x + 1))
        case measure => rw [HG.out]; omega
        case rel => exact ⟨x + 1, by omega, rfl, by go_num, by rw [← HN2.out]; exact hown4, hB, hsz4⟩
      · have hcx : s[x]'hlt = 8 := HCC.out
        go_wp2_with (at_builtin; refine app_bytes rfl (.tmp 42) (.tmp 44) rfl N u4 L rfl ?h1 _ _ _ [92, 98] rfl rfl ?h2 ?h3 ?h4 ?_)
        case h1 => exact hown.alloc _
        case h2 => exact two_new rfl _ _ _ rfl rfl
        case h3 => simp; omega
        case h4 => simp; omega
        intro v' w4 hown4 hgr
        have hB : Below N w w4 := (hbel.alloc hsz _).grown hgr (by simp; omega) hown.below
        have hsz4 : N ≤ w4.heap.size := by have := hgr.size; simp at this; omega
        clear hgr
        go_wp2
        go_roundg (s.size + 1 - (x + 1))
        case measure => rw [HG.out]; omega
        case rel => exact ⟨x + 1, by omega, rfl, by go_num, by rw [← HN2.out]; exact hown4, hB, hsz4⟩
      · have hcx : s[x]'hlt = 12 := HCC.out
        go_wp2_with (at_builtin; refine app_bytes rfl (.tmp 42) (.tmp 44) rfl N u4 L rfl ?h1 _ _ _ [92, 102] rfl rfl ?h2 ?h3 ?h4 ?_)
        case h1 => exact hown.alloc _
        case h2 => exact two_new rfl _ _ _ rfl rfl
        case h3 => simp; omega
        case h4 => simp; omega
        intro v' w4 hown4 hgr
        have hB : Below N w w4 := (hbel.alloc hsz _).grown hgr (by simp; omega) hown.below
        have hsz4 : N ≤ w4.heap.size := by have := hgr.size; simp at this; omega
        clear hgr
        go_wp2
        go_roundg (s.size + 1 - (x + 1))
        case measure => rw [HG.out]; omega
        case rel => exact ⟨x + 1, by omega, rfl, by go_num, by rw [← HN2.out]; exact hown4, hB, hsz4⟩
      · have hcx : s[x]'hlt = 10 := HCC.out
        go_wp2_with (at_builtin; refine app_bytes rfl (.tmp 42) (.tmp 44) rfl N u4 L rfl ?h1 _ _ _ [92, 110] rfl rfl ?h2 ?h3 ?h4 ?_)
        case h1 => exact hown.alloc _
        case h2 => exact two_new rfl _ _ _ rfl rfl
        case h3 => simp; omega
        case h4 => simp; omega
        intro v' w4 hown4 hgr
        have hB : Below N w w4 := (hbel.alloc hsz _).grown hgr (by simp; omega) hown.below
        have hsz4 : N ≤ w4.heap.size := by have := hgr.size; simp at this; omega
        clear hgr
        go_wp2
        go_roundg (s.size + 1 - (x + 1))
        case measure => rw [HG.out]; omega
        case rel => exact ⟨x + 1, by omega, rfl, by go_num, by rw [← HN2.out]; exact hown4, hB, hsz4⟩
      · have hcx : s[x]'hlt = 13 := HCC.out
        go_wp2_with (at_builtin; refine app_bytes rfl (.tmp 42) (.tmp 44) rfl N u4 L rfl ?h1 _ _ _ [92, 114] rfl rfl ?h2 ?h3 ?h4 ?_)
        case h1 => exact hown.alloc _
        case h2 => exact two_new rfl _ _ _ rfl rfl
        case h3 => simp; omega
        case h4 => simp; omega
        intro v' w4 hown4 hgr
        have hB : Below N w w4 := (hbel.alloc hsz _).grown hgr (by simp; omega) hown.below
        have hsz4 : N ≤ w4.heap.size := by have := hgr.size; simp at this; omega
        clear hgr
        go_wp2
        go_roundg (s.size + 1 - (x + 1))
        case measure => rw [HG.out]; omega
        case rel => exact ⟨x + 1, by omega, rfl, by go_num, by rw [← HN2.out]; exact hown4, hB, hsz4⟩
      · have hcx : s[x]'hlt = 9 := HCC.out
        go_wp2_with (at_builtin; refine app_bytes rfl (.tmp 42) (.tmp 44) rfl N u4 L rfl ?h1 _ _ _ [92, 116] rfl rfl ?h2 ?h3 ?h4 ?_)
        case h1 => exact hown.alloc _
        case h2 => exact two_new rfl _ _ _ rfl rfl
        case h3 => simp; omega
        case h4 => simp; omega
        intro v' w4 hown4 hgr
        have hB : Below N w w4 := (hbel.alloc hsz _).grown hgr (by simp; omega) hown.below
        have hsz4 : N ≤ w4.heap.size := by have := hgr.size; simp at this; omega
        clear hgr
        go_wp2
        go_roundg (s.size + 1 - (x + 1))
        case measure => rw [HG.out]; omega
        case rel => exact ⟨x + 1, by omega, rfl, by go_num, by rw [← HN2.out]; exact hown4, hB, hsz4⟩
      · have HQ := qb_else hn
        obtain ⟨n1, n2, n3, n4, n5, n6, n7⟩ := hn
        have ne : ∀ y : UInt8, c ≠ y → (((s[x]'hlt).toNat : Int) == (y.toNat : Int)) = false := by
          intro y hy
          rw [beq_eq_false_iff_ne]; intro e; apply hy; rw [HCC.out] at e; exact UInt8.toNat.inj (by omega)
        have e1 : (((s[x]'hlt).toNat : Int) == 34) = false := ne 34 n1
        have e2 : (((s[x]'hlt).toNat : Int) == 92) = false := ne 92 n2
        have e3 : (((s[x]'hlt).toNat : Int) == 8) = false := ne 8 n3
        have e4 : (((s[x]'hlt).toNat : Int) == 12) = false := ne 12 n4
        have e5 : (((s[x]'hlt).toNat : Int) == 10) = false := ne 10 n5
        have e6 : (((s[x]'hlt).toNat : Int) == 13) = false := ne 13 n6
        have e7 : (((s[x]'hlt).toNat : Int) == 9) = false := ne 9 n7
        clear n1 n2 n3 n4 n5 n6 n7 ne
        by_cases h32 : (s[x]'hlt).toNat < 32
        · rw [if_pos (by rw [← HCC.out]; exact h32)] at HQ
          have HQ2 : Hid (qb c = _) := HQ
          clear HQ
          have h32' : ((s[x]'hlt).toNat : Int) < 32 := by omega
          obtain ⟨q1, hq1⟩ : ∃ q1 : Nat, q1 = (s[x]'hlt).toNat / 16 := ⟨_, rfl⟩
          obtain ⟨q2, hq2⟩ : ∃ q2 : Nat, q2 = (s[x]'hlt).toNat % 16 := ⟨_, rfl⟩
          have hw1 : IntKind.u8.wrap (((s[x]'hlt).toNat : Int) / 16) = (q1 : Int) := by rw [hq1]; simp [IntKind.wrap, IntKind.signed, IntKind.bits]; omega
          have hw2 : (((s[x]'hlt).toNat : Int)).tmod 16 = (q2 : Int) := by rw [Int.tmod_eq_emod_of_nonneg (by omega), hq2]; omega
          have hq1' : (q1 : Int) < 16 := by omega
          have hq2' : (q2 : Int) < 16 := by omega
          have HQ3 : Hid (qb c = [92, 117, 48, 48, hxc q1, hxc q2]) := by show _ = _; rw [hq1, hq2, HCC.out]; exact HQ2.out
          clear hq1 hq2 h32 HQ2
          go_wp2
          go_region_law (refine step_app_bytes rfl _ _ rfl N u4 L (by rfl) (by exact hown.alloc _) ⟨wr.heap.size, 0, none⟩ _ _ [92, 117, 48, 48, hxc q1, hxc q2] (by rfl) (by rfl) (by exact six_new wr q1 q2 (by omega) (by omega) _ _) (by simp; omega) (by simp; omega) ?_; intro v' w4 hown4 hgr)
          all_goals
            have hB : Below N w w4 := ((hbel.alloc hsz _).drew).grown hgr (by simp; omega) hown.below
            have hsz4 : N ≤ w4.heap.size := by have := hgr.size; simp at this; omega
            rw [← HQ3.out] at hown4
            clear hgr
            go_wp2
            go_roundg (s.size + 1 - (x + 1))
            case measure => rw [HG.out]; omega
            case rel => exact ⟨x + 1, by omega, rfl, by go_num, by rw [← HN2.out]; exact hown4, hB, hsz4⟩
        · rw [if_neg (by rw [← HCC.out]; exact h32)] at HQ
          have HQ2 : Hid (qb c = [c]) := HQ
          clear HQ
          have h32' : ¬ ((s[x]'hlt).toNat : Int) < 32 := by omega
          have HCI : Hid ((c.toNat : Int) = ((s[x]'hlt).toNat : Int)) := by show _ = _; rw [HCC.out]
          go_wp2_with (at_builtin; refine app_bytes rfl (.tmp 35) (.tmp 37) rfl N u4 L rfl ?h1 _ _ _ [c] rfl rfl ?h2 ?h3 ?h4 ?_)
          case h1 => exact hown.alloc _
          case h2 => first | exact one_new rfl _ _ HCI.out | (intro j u hj; rw [show bv [c] = [.int .u8 ((s[x]'hlt).toNat : Int)] from by simp [bv, HCI.out]] at hj; exact hj)
          case h3 => first | omega | (simp; omega)
          case h4 => first | omega | (simp; omega)
          intro v' w4 hown4 hgr
          rw [← HQ2.out] at hown4
          have hB : Below N w w4 := (hbel.alloc hsz _).grown hgr (by simp; omega) hown.below
          have hsz4 : N ≤ w4.heap.size := by have := hgr.size; simp at this; omega
          clear hgr
          go_wp2
          go_roundg (s.size + 1 - (x + 1))
          case measure => rw [HG.out]; omega
          case rel => exact ⟨x + 1, by omega, rfl, by go_num, by rw [← HN2.out]; exact hown4, hB, hsz4⟩
    · have hxe : x = s.size := by omega
      have HF : Hid (L ++ [34] = quoteB s.data.toList) := by
        show _ = _
        rw [HL.out, quoteB, List.take_of_length_le (by simp; omega)]
      go_wp2_with (at_builtin; refine app_bytes rfl (.tmp 60) (.tmp 61) rfl N u4 L rfl ?h1 _ _ _ [34] rfl rfl ?h2 ?h3 ?h4 ?_)
      case h1 => exact hown.alloc _
      case h2 => exact one_new rfl _ _ rfl
      case h3 => simp; omega
      case h4 => simp; omega
      intro v' w4 hown4 hgr
      have hB : Below N w w4 := (hbel.alloc hsz _).grown hgr (by simp; omega) hown.below
      have hcv := conv_own hown4
      clear hgr
      go_wp2
      go_ret
      exact ⟨congrArg (fun l => Ending.returned (.string (bs l))) HF.out, hB⟩

end Go.Proofs.YtjaoocincdoaaaaGreatDoor

namespace Go.Proofs.YtjaoocincdoaaaaGreatDoor
open Go.RowKit J

set_option linter.unusedVariables false

def ltext (l : Lf) : List UInt8 :=
  match (l : Unit ⊕ (Bool ⊕ (Int ⊕ ByteArray))) with
  | Sum.inl _ => [110, 117, 108, 108]
  | Sum.inr (Sum.inl t) => if t then [116, 114, 117, 101] else [102, 97, 108, 115, 101]
  | Sum.inr (Sum.inr (Sum.inl n)) => decB n
  | Sum.inr (Sum.inr (Sum.inr s)) => quoteB s.data.toList

/-- Things with commas between them. -/
def itemsF : Bool → List (List UInt8) → List UInt8
  | _, [] => []
  | fst, x :: r => (if fst then [] else [44]) ++ x ++ itemsF false r
theorem itemsF_snoc : ∀ (f : Bool) (l : List (List UInt8)) (x : List UInt8), itemsF f (l ++ [x]) = itemsF f l ++ (if f && l.isEmpty then [] else [44]) ++ x
  | f, [], x => by cases f <;> simp [itemsF]
  | f, y :: l, x => by
    have := itemsF_snoc false l x
    simp only [List.cons_append, itemsF, this]
    simp [List.append_assoc]

def memT (k : ByteArray) (t : List UInt8) : List UInt8 := quoteB k.data.toList ++ 58 :: t

/-- A value, written in one way. -/
def vtext : (n : Nat) → VT n → List UInt8
  | 0, l => ltext l
  | n + 1, v =>
    match (v : Lf ⊕ (List (VT n) ⊕ (List ByteArray × List (VT n)))) with
    | Sum.inl l => ltext l
    | Sum.inr (Sum.inl vs) => 91 :: itemsF true (vs.map (vtext n)) ++ [93]
    | Sum.inr (Sum.inr (ks, vs)) => 123 :: itemsF true (List.zipWith memT ks (vs.map (vtext n))) ++ [125]

def LOk (l : Lf) : Prop :=
  match (l : Unit ⊕ (Bool ⊕ (Int ⊕ ByteArray))) with
  | Sum.inr (Sum.inr (Sum.inl n)) => -1000000000000000 ≤ n ∧ n ≤ 1000000000000000
  | Sum.inr (Sum.inr (Sum.inr s)) => s.size ≤ 100000
  | _ => True
/-- Its numbers and strings are within bounds. -/
def VOk : (n : Nat) → VT n → Prop
  | 0, l => LOk l
  | n + 1, v =>
    match (v : Lf ⊕ (List (VT n) ⊕ (List ByteArray × List (VT n)))) with
    | Sum.inl l => LOk l
    | Sum.inr (Sum.inl vs) => ∀ x ∈ vs, VOk n x
    | Sum.inr (Sum.inr (ks, vs)) => (∀ k ∈ ks, k.size ≤ 100000) ∧ ∀ x ∈ vs, VOk n x

def WrSaid (n : Nat) : Prop :=
  ∀ (v : VT n) (p : Value) (w : World) (N : Nat) (out : Value) (l : List UInt8), RefV n w (fun m => m < N) v p → VOk n v → N ≤ w.heap.size → OB w N out l → l.length + (vtext n v).length ≤ 900000 →
    Calls Tryz.prog 37 #[p, out] w fun e w' => ∃ out', e = .returned out' ∧ OB w' N out' (l ++ vtext n v) ∧ Below N w w' ∧ N ≤ w'.heap.size

theorem ob_below {w w' : World} {N : Nat} {v : Value} {l : List UInt8} (h : OB w N v l) (hb : Below w.heap.size w w') : OB w' N v l := by
  refine ⟨h.1, ?_⟩
  rcases h.2 with h2 | ⟨g, cap, cur, rfl, h0, hg, r⟩
  · exact .inl h2
  · exact .inr ⟨g, cap, cur, rfl, h0, by rw [hb.block g (lt_of_heap hg)]; exact hg, r⟩

set_option maxRecDepth 100000 in
set_option maxHeartbeats 4000000 in
theorem write_leaf (lf : Lf) (p : Value) (w : World) (N : Nat) (out : Value) (l : List UInt8) (href : RefL w (fun m => m < N) lf p) (hok : LOk lf) (hN : N ≤ w.heap.size) (hown : OB w N out l) (hlen : l.length + (ltext lf).length ≤ 900000) :
    Calls Tryz.prog 37 #[p, out] w fun e w' => ∃ out', e = .returned out' ∧ OB w' N out' (l ++ ltext lf) ∧ Below N w w' ∧ N ≤ w'.heap.size := by
  obtain ⟨m, W, rfl, hm, hh⟩ := href
  match lf, hok, hh, hlen with
  | Sum.inl _, hok, hh, hlen =>
    have hh' : w.heap[m]? = some (vblk 122 0 ⟨#[]⟩ nilSl nilSl W) := hh
    have HT : Hid (ltext (Sum.inl ()) = [110, 117, 108, 108]) := rfl
    obtain ⟨g0, g1, g2, g3, g4, g5, hf⟩ := vcells hh'
    have hlen' : l.length + 4 ≤ 900000 := hlen
    clear hh hh' hok hlen g1 g2 g3 g4 g5 hf
    go_enter Tryz.func37, Tryz.ntmps37
    go_wp2_with (at_builtin; refine app_str rfl _ _ rfl N out l rfl hown ⟨#[110, 117, 108, 108]⟩ rfl ?h3 hN ?_)
    case h3 => show l.length + 4 ≤ 1000000; omega
    intro v' w4 hown4 hgr
    go_wp2
    go_ret
    exact ⟨v', rfl, hown4, (Below.refl N w).grown hgr hN hown.below, Nat.le_trans hN hgr.size⟩
  | Sum.inr (Sum.inl true), hok, hh, hlen =>
    have hh' : w.heap[m]? = some (vblk 116 0 ⟨#[]⟩ nilSl nilSl W) := hh
    obtain ⟨g0, g1, g2, g3, g4, g5, hf⟩ := vcells hh'
    have hlen' : l.length + 4 ≤ 900000 := hlen
    clear hh hh' hok hlen g1 g2 g3 g4 g5 hf
    go_enter Tryz.func37, Tryz.ntmps37
    go_wp2_with (at_builtin; refine app_str rfl _ _ rfl N out l rfl hown ⟨#[116, 114, 117, 101]⟩ rfl ?h3 hN ?_)
    case h3 => show l.length + 4 ≤ 1000000; omega
    intro v' w4 hown4 hgr
    go_wp2
    go_ret
    exact ⟨v', rfl, hown4, (Below.refl N w).grown hgr hN hown.below, Nat.le_trans hN hgr.size⟩
  | Sum.inr (Sum.inl false), hok, hh, hlen =>
    have hh' : w.heap[m]? = some (vblk 102 0 ⟨#[]⟩ nilSl nilSl W) := hh
    obtain ⟨g0, g1, g2, g3, g4, g5, hf⟩ := vcells hh'
    have hlen' : l.length + 5 ≤ 900000 := hlen
    clear hh hh' hok hlen g1 g2 g3 g4 g5 hf
    go_enter Tryz.func37, Tryz.ntmps37
    go_wp2_with (at_builtin; refine app_str rfl _ _ rfl N out l rfl hown ⟨#[102, 97, 108, 115, 101]⟩ rfl ?h3 hN ?_)
    case h3 => show l.length + 5 ≤ 1000000; omega
    intro v' w4 hown4 hgr
    go_wp2
    go_ret
    exact ⟨v', rfl, hown4, (Below.refl N w).grown hgr hN hown.below, Nat.le_trans hN hgr.size⟩
  | Sum.inr (Sum.inr (Sum.inl n)), hok, hh, hlen =>
    have hh' : w.heap[m]? = some (vblk 110 n ⟨#[]⟩ nilSl nilSl W) := hh
    have hok' : -1000000000000000 ≤ n ∧ n ≤ 1000000000000000 := hok
    obtain ⟨g0, g1, g2, g3, g4, g5, hf⟩ := vcells hh'
    have hlen' : l.length + (decB n).length ≤ 900000 := hlen
    have HO : Hid (-1000000000000000 ≤ n ∧ n ≤ 1000000000000000) := hok'
    have hsz := bs_size (decB n)
    clear hh hh' hok hok' hlen g2 g3 g4 g5 hf
    go_enter Tryz.func37, Tryz.ntmps37
    go_wp2_with (first
      | (go_at_call 54; refine (decimal_any n _ (by have := HO.out; omega) (by have := HO.out; omega)).mono ?_; rintro e w2 ⟨rfl, rfl⟩)
      | (at_builtin; refine app_str rfl _ _ rfl N out l rfl hown (bs (decB n)) rfl ?h3 hN ?_))
    case h3 => rw [bs_size]; omega
    intro v' w4 hown4 hgr
    rw [bs_toList] at hown4
    go_wp2
    go_ret
    exact ⟨v', rfl, hown4, (Below.refl N w).grown hgr hN hown.below, Nat.le_trans hN hgr.size⟩
  | Sum.inr (Sum.inr (Sum.inr s)), hok, hh, hlen =>
    have hh' : w.heap[m]? = some (vblk 115 0 s nilSl nilSl W) := hh
    have hok' : s.size ≤ 100000 := hok
    obtain ⟨g0, g1, g2, g3, g4, g5, hf⟩ := vcells hh'
    have hlen' : l.length + (quoteB s.data.toList).length ≤ 900000 := hlen
    clear hh hh' hok hlen g1 g3 g4 g5 hf
    go_enter Tryz.func37, Tryz.ntmps37
    go_wp2_with (go_at_call 55; refine (quote_any s _ hok').mono ?_; rintro e w2 ⟨rfl, hbel2⟩; fail)
    refine (quote_any s _ hok').mono ?_
    rintro e w2 ⟨rfl, hbel2⟩
    have hown2 : OB w2 N out l := ob_below hown hbel2
    go_wp2_with (at_builtin; refine app_str rfl _ _ rfl N out l rfl hown2 (bs (quoteB s.data.toList)) rfl ?h3 ?h4 ?_)
    case h3 => rw [bs_size]; omega
    case h4 => exact Nat.le_trans hN hbel2.size
    intro v' w4 hown4 hgr
    rw [bs_toList] at hown4
    go_wp2
    go_ret
    exact ⟨v', rfl, hown4, (hbel2.mono hN).grown hgr (Nat.le_trans hN hbel2.size) hown.below, Nat.le_trans (Nat.le_trans hN hbel2.size) hgr.size⟩

end Go.Proofs.YtjaoocincdoaaaaGreatDoor

namespace Go.Proofs.YtjaoocincdoaaaaGreatDoor
open Go.RowKit J

set_option linter.unusedVariables false

theorem All2.get {α β : Type} {R : α → β → Prop} : ∀ {us : List α} {vs : List β}, All2 R us vs → ∀ i, i < us.length → ∃ a b, us[i]? = some a ∧ vs[i]? = some b ∧ R a b
  | [], [], _, i, h => by simp at h
  | a :: us, b :: vs, k, i, h => by
    cases i with
    | zero => exact ⟨a, b, rfl, rfl, k.1⟩
    | succ i =>
      obtain ⟨x, y, h1, h2, h3⟩ := All2.get k.2 i (by simpa using h)
      exact ⟨x, y, by simpa using h1, by simpa using h2, h3⟩
  | [], b :: vs, k, i, h => by simp at h
  | a :: us, [], k, _, _ => k.elim

theorem take_map_snoc {α β : Type} (f : α → β) (l : List α) (i : Nat) (a : α) (h : l[i]? = some a) : (l.take (i + 1)).map f = (l.take i).map f ++ [f a] := by
  rw [List.take_add_one, h]; simp

theorem Row.maxlen {w : World} {e : TypeId} {v : Value} {xs : List Value} (h : Row w e v xs) : xs.length ≤ maxLen := by
  rcases h.2 with ⟨_, h3⟩ | ⟨g', cap', cur, h2, h0, hg, hc, hm, r⟩
  · omega
  · omega

theorem itemsF_le (f : Bool) : ∀ (l : List (List UInt8)) (i : Nat), (itemsF f (l.take i)).length ≤ (itemsF f l).length
  | [], i => by simp
  | x :: l, 0 => by simp [itemsF]
  | x :: l, i + 1 => by
    simp only [List.take_succ_cons, itemsF]
    have : ∀ (g : Bool), (itemsF g (l.take i)).length ≤ (itemsF g l).length := fun g => itemsF_le g l i
    have := this false
    simp only [List.length_append]; omega

set_option maxRecDepth 100000 in
set_option maxHeartbeats 8000000 in
theorem write_list (n : Nat) (ih : WrSaid n) (vs : List (VT n)) (p : Value) (w : World) (N : Nat) (out : Value) (l : List UInt8) (href : RefV (n + 1) w (fun m => m < N) (VT.list vs) p) (hok : ∀ x ∈ vs, VOk n x) (hN : N ≤ w.heap.size) (hown : OB w N out l) (hlen : l.length + (91 :: itemsF true (vs.map (vtext n)) ++ [93]).length ≤ 900000) :
    Calls Tryz.prog 37 #[p, out] w fun e w' => ∃ out', e = .returned out' ∧ OB w' N out' (l ++ (91 :: itemsF true (vs.map (vtext n)) ++ [93])) ∧ Below N w w' ∧ N ≤ w'.heap.size := by
  obtain ⟨m, W, lsl, ps, rfl, hm, hh, hrow, hlN, hall⟩ := href
  obtain ⟨g0, g1, g2, g3, g4, g5, hf⟩ := vcells hh
  have hmax := hrow.maxlen
  have hvl := hall.length
  have hform := hrow.len
  have hcells : ∀ g cap, lsl = .slice (some ⟨g, 0, none⟩) ps.length cap → g < N ∧ ∀ i u, ps[i]? = some u → w.cell? ⟨g, i, none⟩ = some u := by
    intro g cap e
    subst e
    exact ⟨hlN g rfl, fun i u hu => hrow.get hu⟩
  have HALL : Hid (All2 (RefV n w (fun m => m < N)) vs ps) := hall
  have HC : Hid (∀ g cap, lsl = .slice (some ⟨g, 0, none⟩) ps.length cap → g < N ∧ ∀ i u, ps[i]? = some u → w.cell? ⟨g, i, none⟩ = some u) := hcells
  have HFM : Hid ((lsl = .slice none 0 0 ∧ ps = []) ∨ ∃ g cap, lsl = .slice (some ⟨g, 0, none⟩) ps.length cap ∧ ps.length ≤ cap) := hform
  have HOK : Hid (∀ x ∈ vs, VOk n x) := hok
  have HIH : Hid (WrSaid n) := ih
  have HVL : Hid (vs.length = ps.length) := hvl
  have HLEN : Hid (l.length + (91 :: itemsF true (vs.map (vtext n)) ++ [93]).length ≤ 900000) := hlen
  have hl9 : l.length ≤ 899990 ∨ 899990 < l.length := by omega
  unfold maxLen at hmax
  have hll : l.length ≤ 899998 := by have := HLEN.out; simp at this; omega
  obtain ⟨P, hP⟩ : ∃ P, P = l ++ (91 :: itemsF true (vs.map (vtext n)) ++ [93]) := ⟨_, rfl⟩
  have HP : Hid (P = l ++ (91 :: itemsF true (vs.map (vtext n)) ++ [93])) := hP
  rw [← hP]
  clear hh hrow hlN hall hcells hform hok ih hvl hlen hl9 hP g1 g2 g4 g5 hf
  go_enter Tryz.func37, Tryz.ntmps37
  go_wp2_with (at_builtin; refine app_bytes rfl (.tmp 47) (.tmp 49) rfl N out l rfl ?h1 _ _ _ [91] rfl rfl ?h2 ?h3 ?h4 ?_)
  case h1 => exact hown.alloc _
  case h2 => exact one_new rfl _ _ rfl
  case h3 => simp; omega
  case h4 => simp; omega
  intro v1 w1 hown1 hgr1
  have hbel1 : Below N w w1 := ((Below.refl N w).alloc hN _).grown hgr1 (by simp; omega) hown.below
  have hsz1 : N ≤ w1.heap.size := by have := hgr1.size; simp at this; omega
  clear hgr1
  go_wp2_with fail
  go_loopg [1, 7] (ps.length + 1) (fun g ov iv wr => ∃ x : Nat, x ≤ ps.length ∧ g = ps.length + 1 - x ∧ iv = .int .i64 x ∧ OB wr N ov (l ++ 91 :: itemsF true ((vs.take x).map (vtext n))) ∧ Below N w wr ∧ N ≤ wr.heap.size)
  case atStart => exact ⟨0, by omega, by omega, rfl, by simpa [itemsF] using hown1, hbel1, hsz1⟩
  case round =>
    obtain ⟨x, hx, hg, rfl, hown2, hbel, hsz⟩ := hrel
    have HG : Hid (gk = ps.length + 1 - x) := hg
    clear hown1 hbel1 hsz1 hg
    have c0 := (hbel.cell (p := ⟨m, 0, none⟩) hm).trans g0
    have c3 := (hbel.cell (p := ⟨m, 3, none⟩) hm).trans g3
    obtain ⟨L, hL⟩ : ∃ L, L = l ++ 91 :: itemsF true ((vs.take x).map (vtext n)) := ⟨_, rfl⟩
    rw [← hL] at hown2
    have HL : Hid (L = l ++ 91 :: itemsF true ((vs.take x).map (vtext n))) := hL
    have hLl : L.length ≤ 899999 := by
      have h1 := HLEN.out
      have h2 := itemsF_le true (vs.map (vtext n)) x
      rw [← List.map_take] at h2
      rw [List.length_append, List.length_cons, List.length_singleton] at h1
      rw [hL, List.length_append, List.length_cons]; omega
    clear hL
    by_cases hlt : x < ps.length
    · obtain ⟨a, b, ha, hb, hab⟩ := HALL.out.get x (by rw [HVL.out]; exact hlt)
      rcases HFM.out with ⟨_, h2⟩ | ⟨gl, capl, h1, h2⟩
      · rw [h2] at hlt; simp at hlt
      · have hcc := HC.out gl capl h1
        have cp := (hbel.cell (p := ⟨gl, x, none⟩) hcc.1).trans (hcc.2 x b hb)
        rw [h1] at c3
        have HAB : Hid (RefV n wr (fun m => m < N) a b) := RefV.keep n hab (fun k o hk ho => ⟨hbel.block k hk, hk⟩)
        have HNX : Hid (l ++ 91 :: itemsF true ((vs.take (x + 1)).map (vtext n)) = L ++ ((if x = 0 then [] else [44]) ++ vtext n a)) := by
          show _ = _
          rw [take_map_snoc _ _ _ _ ha, itemsF_snoc, HL.out]
          by_cases hx0 : x = 0
          · subst hx0; simp [itemsF]
          · rw [if_neg hx0]
            have : ((vs.take x).map (vtext n)).isEmpty = false := by
              have h1 : vs.length = ps.length := HVL.out
              rw [List.isEmpty_eq_false_iff]; intro e
              have h2 := congrArg List.length e
              rw [List.length_map, List.length_take, List.length_nil] at h2; omega
            rw [this]; simp
        have HLB : Hid ((L ++ ((if x = 0 then [] else [44]) ++ vtext n a)).length ≤ 899999) := by
          show _ ≤ _
          have h1 := HLEN.out
          have h2 := itemsF_le true (vs.map (vtext n)) (x + 1)
          rw [← List.map_take] at h2
          rw [List.length_append, List.length_cons, List.length_singleton] at h1
          rw [← HNX.out, List.length_append, List.length_cons]; omega
        have HOA : Hid (VOk n a) := HOK.out a (List.mem_of_getElem? ha)
        clear h1 h2 hcc hab ha hb
        by_cases hx0 : x = 0
        · subst hx0
          have HLB2 : Hid (L.length + (vtext n a).length ≤ 900000) := by show _ ≤ _; have := HLB.out; simp at this; omega
          have HNX2 : Hid (l ++ 91 :: itemsF true ((vs.take (0 + 1)).map (vtext n)) = L ++ vtext n a) := by show _ = _; rw [HNX.out]; simp
          go_wp2_with (go_at_call 37; refine (HIH.out a b wr N _ L HAB.out HOA.out hsz hown2 HLB2.out).mono ?_; rintro e w4 ⟨o4, rfl, hown4, hbel4, hsz4⟩)
          go_roundg (ps.length + 1 - (0 + 1))
          case measure => rw [HG.out]; omega
          case rel => exact ⟨0 + 1, by omega, rfl, by go_num, by rw [HNX2.out]; exact hown4, hbel.trans hbel4, hsz4⟩
        · have hx1 : 0 < x := by omega
          have HLB2 : Hid ((L ++ [44]).length + (vtext n a).length ≤ 900000) := by show _ ≤ _; have := HLB.out; rw [if_neg hx0] at this; simp at this ⊢; omega
          have HNX2 : Hid (l ++ 91 :: itemsF true ((vs.take (x + 1)).map (vtext n)) = (L ++ [44]) ++ vtext n a) := by show _ = _; rw [HNX.out, if_neg hx0]; simp
          clear hx0
          go_wp2_with (at_builtin; refine app_bytes rfl (.tmp 62) (.tmp 63) rfl N _ L rfl ?k1 _ _ _ [44] rfl rfl ?k2 ?k3 ?k4 ?_)
          case k1 => exact hown2.alloc _
          case k2 => exact one_new rfl _ _ rfl
          case k3 => simp; omega
          case k4 => simp; omega
          intro v3 w3 hown3 hgr3
          have hbel3 : Below N wr w3 := ((Below.refl N wr).alloc hsz _).grown hgr3 (by simp; omega) hown2.below
          have hsz3 : N ≤ w3.heap.size := by have := hgr3.size; simp at this; omega
          have d0 := (hbel3.cell (p := ⟨m, 0, none⟩) hm).trans c0
          have d3 := (hbel3.cell (p := ⟨m, 3, none⟩) hm).trans c3
          have hglN : gl < N := by rcases HFM.out with ⟨h, _⟩ | ⟨g', cap', h, _⟩
                                   · rw [h] at g3; have := c3; rw [(hbel.cell (p := ⟨m, 3, none⟩) hm), g3] at this; cases this
                                   · have := c3; rw [(hbel.cell (p := ⟨m, 3, none⟩) hm), g3, h] at this; injection this with this; injection this with this; injection this with this; injection this with this; rw [← this]; exact (HC.out g' cap' h).1
          have dp := (hbel3.cell (p := ⟨gl, x, none⟩) hglN).trans cp
          have HAB3 : Hid (RefV n w3 (fun m => m < N) a b) := RefV.keep n HAB.out (fun k o hk ho => ⟨hbel3.block k hk, hk⟩)
          clear hgr3 c0 c3 cp
          go_wp2_with (go_at_call 37; refine (HIH.out a b w3 N _ (L ++ [44]) HAB3.out HOA.out hsz3 hown3 HLB2.out).mono ?_; rintro e w4 ⟨o4, rfl, hown4, hbel4, hsz4⟩)
          go_roundg (ps.length + 1 - (x + 1))
          case measure => rw [HG.out]; omega
          case rel => exact ⟨x + 1, by omega, rfl, by go_num, by rw [HNX2.out]; exact hown4, (hbel.trans hbel3).trans hbel4, hsz4⟩
    · have hxe : x = ps.length := by omega
      have HF : Hid (L ++ [93] = P) := by
        show _ = _
        rw [HP.out, HL.out, List.take_of_length_le (by rw [HVL.out]; omega)]; simp
      rcases HFM.out with ⟨h1, h2⟩ | ⟨gl, capl, h1, h2⟩
      all_goals
        rw [h1] at c3
        clear h1 h2
        go_wp2_with (at_builtin; refine app_bytes rfl (.tmp 92) (.tmp 94) rfl N _ L rfl ?j1 _ _ _ [93] rfl rfl ?j2 ?j3 ?j4 ?_)
        case j1 => exact hown2.alloc _
        case j2 => exact one_new rfl _ _ rfl
        case j3 => simp; omega
        case j4 => simp; omega
        intro v3 w3 hown3 hgr3
        have hbel3 : Below N wr w3 := ((Below.refl N wr).alloc hsz _).grown hgr3 (by simp; omega) hown2.below
        have hsz3 : N ≤ w3.heap.size := by have := hgr3.size; simp at this; omega
        rw [HF.out] at hown3
        clear hgr3
        go_wp2
        go_ret
        exact ⟨v3, rfl, hown3, hbel.trans hbel3, hsz3⟩

end Go.Proofs.YtjaoocincdoaaaaGreatDoor

namespace Go.Proofs.YtjaoocincdoaaaaGreatDoor
open Go.RowKit J

set_option linter.unusedVariables false

theorem take_get_snoc {α : Type} (l : List α) (i : Nat) (a : α) (h : l[i]? = some a) : l.take (i + 1) = l.take i ++ [a] := by
  rw [List.take_add_one, h]; simp

set_option maxRecDepth 100000 in
set_option maxHeartbeats 8000000 in
theorem write_obj (n : Nat) (ih : WrSaid n) (ks : List ByteArray) (vs : List (VT n)) (p : Value) (w : World) (N : Nat) (out : Value) (l : List UInt8) (href : RefV (n + 1) w (fun m => m < N) (VT.obj ks vs) p) (hok : ∀ x ∈ vs, VOk n x) (hkok : ∀ k ∈ ks, k.size ≤ 100000) (hN : N ≤ w.heap.size) (hown : OB w N out l)
    (T : List (List UInt8)) (hT : T = List.zipWith memT ks (vs.map (vtext n))) (hlen : l.length + (123 :: itemsF true T ++ [125]).length ≤ 900000) :
    Calls Tryz.prog 37 #[p, out] w fun e w' => ∃ out', e = .returned out' ∧ OB w' N out' (l ++ (123 :: itemsF true T ++ [125])) ∧ Below N w w' ∧ N ≤ w'.heap.size := by
  obtain ⟨m, W, lsl, ksl, ps, rfl, hm, hh, hrow, hrk, hlN, hkN, hkv, hall⟩ := href
  obtain ⟨g0, g1, g2, g3, g4, g5, hf⟩ := vcells hh
  have hmax := hrow.maxlen
  have hvl := hall.length
  have hTl : T.length = ps.length := by rw [hT, List.length_zipWith, List.length_map]; omega
  have hform := hrow.len
  have hformk := hrk.len
  have hkl : (kv ks).length = ps.length := by simp [kv]; omega
  have hcells : ∀ g cap, lsl = .slice (some ⟨g, 0, none⟩) ps.length cap → g < N ∧ ∀ i u, ps[i]? = some u → w.cell? ⟨g, i, none⟩ = some u := by
    intro g cap e
    subst e
    exact ⟨hlN g rfl, fun i u hu => hrow.get hu⟩
  have hcellk : ∀ g cap, ksl = .slice (some ⟨g, 0, none⟩) (kv ks).length cap → g < N ∧ ∀ i k, ks[i]? = some k → w.cell? ⟨g, i, none⟩ = some (.string k) := by
    intro g cap e
    subst e
    exact ⟨hkN g rfl, fun i k hu => hrk.get (by simp [kv, hu])⟩
  have HALL : Hid (All2 (RefV n w (fun m => m < N)) vs ps) := hall
  have HC : Hid (∀ g cap, lsl = .slice (some ⟨g, 0, none⟩) ps.length cap → g < N ∧ ∀ i u, ps[i]? = some u → w.cell? ⟨g, i, none⟩ = some u) := hcells
  have HCK : Hid (∀ g cap, ksl = .slice (some ⟨g, 0, none⟩) (kv ks).length cap → g < N ∧ ∀ i k, ks[i]? = some k → w.cell? ⟨g, i, none⟩ = some (.string k)) := hcellk
  have HFM : Hid ((lsl = .slice none 0 0 ∧ ps = []) ∨ ∃ g cap, lsl = .slice (some ⟨g, 0, none⟩) ps.length cap ∧ ps.length ≤ cap) := hform
  have HFK : Hid ((ksl = .slice none 0 0 ∧ kv ks = []) ∨ ∃ g cap, ksl = .slice (some ⟨g, 0, none⟩) (kv ks).length cap ∧ (kv ks).length ≤ cap) := hformk
  have HKL : Hid ((kv ks).length = ps.length) := hkl
  have HOK : Hid (∀ x ∈ vs, VOk n x) := hok
  have HKOK : Hid (∀ k ∈ ks, k.size ≤ 100000) := hkok
  have HIH : Hid (WrSaid n) := ih
  have HVL : Hid (vs.length = ps.length) := hvl
  have HKV : Hid (ks.length = vs.length) := hkv
  have HTL : Hid (T.length = ps.length) := hTl
  have HTT : Hid (T = List.zipWith memT ks (vs.map (vtext n))) := hT
  have HLEN : Hid (l.length + (123 :: itemsF true T ++ [125]).length ≤ 900000) := hlen
  unfold maxLen at hmax
  have hll : l.length ≤ 899998 := by have := HLEN.out; simp at this; omega
  obtain ⟨P, hP⟩ : ∃ P, P = l ++ (123 :: itemsF true T ++ [125]) := ⟨_, rfl⟩
  have HP : Hid (P = l ++ (123 :: itemsF true T ++ [125])) := hP
  rw [← hP]
  clear hh hrow hrk hlN hkN hkv hall hcells hcellk hform hformk hkl hok hkok ih hvl hlen hP hT hTl g1 g2 g5 hf
  go_enter Tryz.func37, Tryz.ntmps37
  go_wp2_with (at_builtin; refine app_bytes rfl (.tmp 47) (.tmp 49) rfl N out l rfl ?h1 _ _ _ [123] rfl rfl ?h2 ?h3 ?h4 ?_)
  case h1 => exact hown.alloc _
  case h2 => exact one_new rfl _ _ rfl
  case h3 => simp; omega
  case h4 => simp; omega
  intro v1 w1 hown1 hgr1
  have hbel1 : Below N w w1 := ((Below.refl N w).alloc hN _).grown hgr1 (by simp; omega) hown.below
  have hsz1 : N ≤ w1.heap.size := by have := hgr1.size; simp at this; omega
  clear hgr1
  go_wp2_with fail
  go_loopg [1, 7] (ps.length + 1) (fun g ov iv wr => ∃ x : Nat, x ≤ ps.length ∧ g = ps.length + 1 - x ∧ iv = .int .i64 x ∧ OB wr N ov (l ++ 123 :: itemsF true (T.take x)) ∧ Below N w wr ∧ N ≤ wr.heap.size)
  case atStart => exact ⟨0, by omega, by omega, rfl, by simpa [itemsF] using hown1, hbel1, hsz1⟩
  case round =>
    obtain ⟨x, hx, hg, rfl, hown2, hbel, hsz⟩ := hrel
    have HG : Hid (gk = ps.length + 1 - x) := hg
    clear hown1 hbel1 hsz1 hg
    have c0 := (hbel.cell (p := ⟨m, 0, none⟩) hm).trans g0
    have c3 := (hbel.cell (p := ⟨m, 3, none⟩) hm).trans g3
    have c4 := (hbel.cell (p := ⟨m, 4, none⟩) hm).trans g4
    obtain ⟨L, hL⟩ : ∃ L, L = l ++ 123 :: itemsF true (T.take x) := ⟨_, rfl⟩
    rw [← hL] at hown2
    have HL : Hid (L = l ++ 123 :: itemsF true (T.take x)) := hL
    have hLl : L.length ≤ 899999 := by
      have h1 := HLEN.out
      have h2 := itemsF_le true T x
      rw [List.length_append, List.length_cons, List.length_singleton] at h1
      rw [hL, List.length_append, List.length_cons]; omega
    clear hL
    by_cases hlt : x < ps.length
    · obtain ⟨a, b, ha, hb, hab⟩ := HALL.out.get x (by rw [HVL.out]; exact hlt)
      obtain ⟨key, hkey⟩ : ∃ key, ks[x]? = some key := ⟨ks[x]'(by have := HKV.out; have := HVL.out; omega), List.getElem?_eq_getElem _⟩
      have hksz := HKOK.out key (List.mem_of_getElem? hkey)
      have htx : T[x]? = some (memT key (vtext n a)) := by
        rw [HTT.out]; simp [List.getElem?_zipWith, hkey, ha]
      rcases HFM.out with ⟨_, h2⟩ | ⟨gl, capl, h1, h2⟩
      · rw [h2] at hlt; simp at hlt
      rcases HFK.out with ⟨_, h4⟩ | ⟨gk2, capk, h3, h4⟩
      · have := HKL.out; rw [h4] at this; simp at this; omega
      have hcc := HC.out gl capl h1
      have hck := HCK.out gk2 capk h3
      have hglN := hcc.1
      have hgkN := hck.1
      have cp := (hbel.cell (p := ⟨gl, x, none⟩) hcc.1).trans (hcc.2 x b hb)
      have ck := (hbel.cell (p := ⟨gk2, x, none⟩) hck.1).trans (hck.2 x key hkey)
      rw [h1] at c3
      rw [h3, HKL.out] at c4
      have HAB : Hid (RefV n wr (fun m => m < N) a b) := RefV.keep n hab (fun k o hk ho => ⟨hbel.block k hk, hk⟩)
      have HNX : Hid (l ++ 123 :: itemsF true (T.take (x + 1)) = L ++ ((if x = 0 then [] else [44]) ++ memT key (vtext n a))) := by
        show _ = _
        rw [take_get_snoc _ _ _ htx, itemsF_snoc, HL.out]
        by_cases hx0 : x = 0
        · subst hx0; simp [itemsF]
        · rw [if_neg hx0]
          have : (T.take x).isEmpty = false := by
            have h1 := HTL.out
            rw [List.isEmpty_eq_false_iff]; intro e
            have h2 := congrArg List.length e
            rw [List.length_take, List.length_nil] at h2; omega
          rw [this]; simp
      have HLB : Hid ((L ++ ((if x = 0 then [] else [44]) ++ memT key (vtext n a))).length ≤ 899999) := by
        show _ ≤ _
        have h1 := HLEN.out
        have h2 := itemsF_le true T (x + 1)
        rw [List.length_append, List.length_cons, List.length_singleton] at h1
        rw [← HNX.out, List.length_append, List.length_cons]; omega
      have HOA : Hid (VOk n a) := HOK.out a (List.mem_of_getElem? ha)
      obtain ⟨Q, hQ⟩ : ∃ Q, Q = quoteB key.data.toList := ⟨_, rfl⟩
      have HQ : Hid (Q = quoteB key.data.toList) := hQ
      have hQs := bs_size Q
      clear h1 h2 h3 h4 hcc hck hab ha hb hkey htx hQ
      by_cases hx0 : x = 0
      · subst hx0
        have HLBq : Hid (L.length + Q.length + 1 + (vtext n a).length ≤ 899999) := by
          show _ ≤ _; have := HLB.out; rw [if_pos rfl] at this; rw [HQ.out]; simp [memT] at this; omega
        have hQl : L.length + Q.length ≤ 899998 := by have := HLBq.out; omega
        have HNX2 : Hid (l ++ 123 :: itemsF true (T.take (0 + 1)) = ((L ++ Q) ++ [58]) ++ vtext n a) := by show _ = _; rw [HNX.out, HQ.out]; simp [memT]
        clear HNX HLB
        go_wp2_with fail
        refine (quote_any key _ hksz).mono ?_
        rintro e w4 ⟨rfl, hbel4⟩
        rw [← HQ.out]
        have hown4 := ob_below hown2 hbel4
        have hsz4 : N ≤ w4.heap.size := Nat.le_trans hsz hbel4.size
        have hB4' : Below N wr w4 := hbel4.mono hsz
        have d0 := (hB4'.cell (p := ⟨m, 0, none⟩) hm).trans c0
        have d3 := (hB4'.cell (p := ⟨m, 3, none⟩) hm).trans c3
        have dp := (hB4'.cell (p := ⟨gl, 0, none⟩) hglN).trans cp
        have hB4 : Below N wr w4 := hB4'
        clear c0 c3 c4 cp ck hbel4 hB4'
        go_wp2_with (at_builtin; refine app_str rfl (.tmp 70) (.tmp 78) rfl N _ L rfl hown4 (bs Q) rfl ?Ll3 hsz4 ?_)
        case Ll3 => rw [bs_size]; omega
        intro v5 w5 hown5 hgr5
        rw [bs_toList] at hown5
        obtain ⟨LQ, hLQ⟩ : ∃ LQ, LQ = L ++ Q := ⟨_, rfl⟩
        rw [← hLQ] at hown5
        have HLQ : Hid (LQ = L ++ Q) := hLQ
        have hLQl : LQ.length = L.length + Q.length := by rw [hLQ, List.length_append]
        have hB5' : Below N w4 w5 := (Below.refl N w4).grown hgr5 hsz4 hown4.below
        have hsz5 : N ≤ w5.heap.size := Nat.le_trans hsz4 hgr5.size
        have e0 := (hB5'.cell (p := ⟨m, 0, none⟩) hm).trans d0
        have e3 := (hB5'.cell (p := ⟨m, 3, none⟩) hm).trans d3
        have ep := (hB5'.cell (p := ⟨gl, 0, none⟩) hglN).trans dp
        have hB5 : Below N wr w5 := hB4.trans hB5'
        clear hgr5 d0 d3 dp hLQ hB5'
        go_wp2_with (at_builtin; refine app_bytes rfl (.tmp 80) (.tmp 81) rfl N _ LQ rfl ?Lm1 _ _ _ [58] rfl rfl ?Lm2 ?Lm3 ?Lm4 ?_)
        case Lm1 => exact hown5.alloc _
        case Lm2 => exact one_new rfl _ _ rfl
        case Lm3 => simp; omega
        case Lm4 => simp; omega
        intro v6 w6 hown6 hgr6
        obtain ⟨LR, hLR⟩ : ∃ LR, LR = LQ ++ [58] := ⟨_, rfl⟩
        rw [← hLR] at hown6
        have HLR : Hid (LR = LQ ++ [58]) := hLR
        have hLRl : LR.length = LQ.length + 1 := by rw [hLR, List.length_append]; rfl
        have hB6' : Below N w5 w6 := ((Below.refl N w5).alloc hsz5 _).grown hgr6 (by simp; omega) hown5.below
        have hsz6 : N ≤ w6.heap.size := by have := hgr6.size; simp at this; omega
        have f0 := (hB6'.cell (p := ⟨m, 0, none⟩) hm).trans e0
        have f3 := (hB6'.cell (p := ⟨m, 3, none⟩) hm).trans e3
        have fp := (hB6'.cell (p := ⟨gl, 0, none⟩) hglN).trans ep
        have hB6 : Below N wr w6 := hB5.trans hB6'
        have HAB6 : Hid (RefV n w6 (fun m => m < N) a b) := RefV.keep n HAB.out (fun k o hk ho => ⟨hB6.block k hk, hk⟩)
        have HLB6 : Hid (LR.length + (vtext n a).length ≤ 900000) := by show _ ≤ _; have := HLBq.out; omega
        clear hgr6 e0 e3 ep hLR hB6'
        go_wp2_with fail
        refine (HIH.out a b w6 N _ LR HAB6.out HOA.out hsz6 hown6 HLB6.out).mono ?_
        rintro e w7 ⟨o7, rfl, hown7, hbel7, hsz7⟩
        go_wp2_with fail
        go_roundg (ps.length + 1 - (0 + 1))
        case measure => rw [HG.out]; omega
        case rel => exact ⟨0 + 1, by omega, rfl, by go_num, by rw [HNX2.out, ← HLQ.out, ← HLR.out]; exact hown7, (hbel.trans hB6).trans hbel7, hsz7⟩
      · have hx1 : 0 < x := by omega
        have HX0 : Hid (¬ x = 0) := hx0
        clear hx0
        go_wp2_with (at_builtin; refine app_bytes rfl (.tmp 62) (.tmp 63) rfl N _ L rfl ?k1 _ _ _ [44] rfl rfl ?k2 ?k3 ?k4 ?_)
        case k1 => exact hown2.alloc _
        case k2 => exact one_new rfl _ _ rfl
        case k3 => simp; omega
        case k4 => simp; omega
        intro v3 w3 hown3 hgr3
        obtain ⟨L2, hL2⟩ : ∃ L2, L2 = L ++ [44] := ⟨_, rfl⟩
        rw [← hL2] at hown3
        have HL2 : Hid (L2 = L ++ [44]) := hL2
        have hL2l : L2.length = L.length + 1 := by rw [hL2, List.length_append]; rfl
        have hbel3 : Below N wr w3 := ((Below.refl N wr).alloc hsz _).grown hgr3 (by simp; omega) hown2.below
        have hsz3 : N ≤ w3.heap.size := by have := hgr3.size; simp at this; omega
        have hx0 := HX0.out
        have c0 := (hbel3.cell (p := ⟨m, 0, none⟩) hm).trans c0
        have c3 := (hbel3.cell (p := ⟨m, 3, none⟩) hm).trans c3
        have c4 := (hbel3.cell (p := ⟨m, 4, none⟩) hm).trans c4
        have cp := (hbel3.cell (p := ⟨gl, x, none⟩) hglN).trans cp
        have ck := (hbel3.cell (p := ⟨gk2, x, none⟩) hgkN).trans ck
        clear hgr3 hL2
        have HLBq : Hid (L2.length + Q.length + 1 + (vtext n a).length ≤ 899999) := by
          show _ ≤ _; have := HLB.out; rw [if_neg hx0] at this; rw [HQ.out]; simp [memT] at this; omega
        have hQl : L2.length + Q.length ≤ 899998 := by have := HLBq.out; omega
        have HNX2 : Hid (l ++ 123 :: itemsF true (T.take (x + 1)) = ((L2 ++ Q) ++ [58]) ++ vtext n a) := by show _ = _; rw [HNX.out, HQ.out, if_neg hx0, HL2.out]; simp [memT]
        clear HNX HLB hx0
        go_wp2_with fail
        refine (quote_any key _ hksz).mono ?_
        rintro e w4 ⟨rfl, hbel4⟩
        rw [← HQ.out]
        have hown4 := ob_below hown3 hbel4
        have hsz4 : N ≤ w4.heap.size := Nat.le_trans hsz3 hbel4.size
        have hB4' : Below N w3 w4 := hbel4.mono hsz3
        have d0 := (hB4'.cell (p := ⟨m, 0, none⟩) hm).trans c0
        have d3 := (hB4'.cell (p := ⟨m, 3, none⟩) hm).trans c3
        have dp := (hB4'.cell (p := ⟨gl, x, none⟩) hglN).trans cp
        have hB4 : Below N wr w4 := hbel3.trans hB4'
        clear c0 c3 c4 cp ck hbel4 hB4'
        go_wp2_with (at_builtin; refine app_str rfl (.tmp 70) (.tmp 78) rfl N _ L2 rfl hown4 (bs Q) rfl ?L2l3 hsz4 ?_)
        case L2l3 => rw [bs_size]; omega
        intro v5 w5 hown5 hgr5
        rw [bs_toList] at hown5
        obtain ⟨LQ, hLQ⟩ : ∃ LQ, LQ = L2 ++ Q := ⟨_, rfl⟩
        rw [← hLQ] at hown5
        have HLQ : Hid (LQ = L2 ++ Q) := hLQ
        have hLQl : LQ.length = L2.length + Q.length := by rw [hLQ, List.length_append]
        have hB5' : Below N w4 w5 := (Below.refl N w4).grown hgr5 hsz4 hown4.below
        have hsz5 : N ≤ w5.heap.size := Nat.le_trans hsz4 hgr5.size
        have e0 := (hB5'.cell (p := ⟨m, 0, none⟩) hm).trans d0
        have e3 := (hB5'.cell (p := ⟨m, 3, none⟩) hm).trans d3
        have ep := (hB5'.cell (p := ⟨gl, x, none⟩) hglN).trans dp
        have hB5 : Below N wr w5 := hB4.trans hB5'
        clear hgr5 d0 d3 dp hLQ hB5'
        go_wp2_with (at_builtin; refine app_bytes rfl (.tmp 80) (.tmp 81) rfl N _ LQ rfl ?L2m1 _ _ _ [58] rfl rfl ?L2m2 ?L2m3 ?L2m4 ?_)
        case L2m1 => exact hown5.alloc _
        case L2m2 => exact one_new rfl _ _ rfl
        case L2m3 => simp; omega
        case L2m4 => simp; omega
        intro v6 w6 hown6 hgr6
        obtain ⟨LR, hLR⟩ : ∃ LR, LR = LQ ++ [58] := ⟨_, rfl⟩
        rw [← hLR] at hown6
        have HLR : Hid (LR = LQ ++ [58]) := hLR
        have hLRl : LR.length = LQ.length + 1 := by rw [hLR, List.length_append]; rfl
        have hB6' : Below N w5 w6 := ((Below.refl N w5).alloc hsz5 _).grown hgr6 (by simp; omega) hown5.below
        have hsz6 : N ≤ w6.heap.size := by have := hgr6.size; simp at this; omega
        have f0 := (hB6'.cell (p := ⟨m, 0, none⟩) hm).trans e0
        have f3 := (hB6'.cell (p := ⟨m, 3, none⟩) hm).trans e3
        have fp := (hB6'.cell (p := ⟨gl, x, none⟩) hglN).trans ep
        have hB6 : Below N wr w6 := hB5.trans hB6'
        have HAB6 : Hid (RefV n w6 (fun m => m < N) a b) := RefV.keep n HAB.out (fun k o hk ho => ⟨hB6.block k hk, hk⟩)
        have HLB6 : Hid (LR.length + (vtext n a).length ≤ 900000) := by show _ ≤ _; have := HLBq.out; omega
        clear hgr6 e0 e3 ep hLR hB6'
        go_wp2_with fail
        refine (HIH.out a b w6 N _ LR HAB6.out HOA.out hsz6 hown6 HLB6.out).mono ?_
        rintro e w7 ⟨o7, rfl, hown7, hbel7, hsz7⟩
        go_wp2_with fail
        go_roundg (ps.length + 1 - (x + 1))
        case measure => rw [HG.out]; omega
        case rel => exact ⟨x + 1, by omega, rfl, by go_num, by rw [HNX2.out, ← HLQ.out, ← HLR.out]; exact hown7, (hbel.trans hB6).trans hbel7, hsz7⟩
    · have hxe : x = ps.length := by omega
      have HF : Hid (L ++ [125] = P) := by
        show _ = _
        rw [HP.out, HL.out, List.take_of_length_le (by rw [HTL.out]; omega)]; simp
      rcases HFM.out with ⟨h1, h2⟩ | ⟨gl, capl, h1, h2⟩
      all_goals
        rw [h1] at c3
        clear h1 h2
        go_wp2_with (at_builtin; refine app_bytes rfl (.tmp 92) (.tmp 94) rfl N _ L rfl ?j1 _ _ _ [125] rfl rfl ?j2 ?j3 ?j4 ?_)
        case j1 => exact hown2.alloc _
        case j2 => exact one_new rfl _ _ rfl
        case j3 => simp; omega
        case j4 => simp; omega
        intro v3 w3 hown3 hgr3
        have hbel3 : Below N wr w3 := ((Below.refl N wr).alloc hsz _).grown hgr3 (by simp; omega) hown2.below
        have hsz3 : N ≤ w3.heap.size := by have := hgr3.size; simp at this; omega
        rw [HF.out] at hown3
        clear hgr3
        go_wp2
        go_ret
        exact ⟨v3, rfl, hown3, hbel.trans hbel3, hsz3⟩

theorem write_all : ∀ n, WrSaid n
  | 0 => fun v p w N out l href hok hN hown hlen => write_leaf v p w N out l href hok hN hown hlen
  | n + 1 => by
    have ih := write_all n
    intro v p w N out l href hok hN hown hlen
    match v, href, hok, hlen with
    | Sum.inl lf, href, hok, hlen => exact write_leaf lf p w N out l href hok hN hown hlen
    | Sum.inr (Sum.inl vs), href, hok, hlen => exact write_list n ih vs p w N out l href hok hN hown hlen
    | Sum.inr (Sum.inr (ks, vs)), href, hok, hlen => exact write_obj n ih ks vs p w N out l href hok.2 hok.1 hN hown _ rfl hlen

end Go.Proofs.YtjaoocincdoaaaaGreatDoor
