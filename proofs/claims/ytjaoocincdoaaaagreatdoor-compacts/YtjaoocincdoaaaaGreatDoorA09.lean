/- The program's reader: words, digits, what a first byte of UTF-8 says. -/
import Derived.Test.YtjaoocincdoaaaaGreatDoorA08
namespace Go.Proofs.YtjaoocincdoaaaaGreatDoor
open Go.RowKit J

set_option linter.unusedVariables false

/-- A word by the plain function: nil, or the place. -/
def werr (J : Addr) (r : Nat × Int) : Value := if r.2 < 0 then .nilIface else errV J r.1

theorem wordR_pk {s : ByteArray} {k : Nat} {c : UInt8} (hc : 0 < c.toNat) : (cv s k (-1) = (c.toNat : Int)) ↔ pk s k = (c.toNat : Int) := by
  rw [cv_good]; exact (pk_gb (by omega)).symm

set_option maxHeartbeats 1000000 in
theorem pword_any (b : Nat) (s lit : ByteArray) (k : Nat) (op : Int) (lg : Bool) (w : World) {J : Addr} (hp : PS w b s k op lg J) (hk : k ≤ s.size) (hs : s.size ≤ 1000) (hl : lit.size ≤ 1000) (hpos : ∀ i (h : i < lit.size), 0 < (lit[i]'h).toNat) :
    Calls Tryz.prog 21 #[.pointer (some ⟨b, 0, none⟩), .string lit] w fun e w' => e = .returned (werr J (wordR s k (-1) lit.data.toList)) ∧ But b w w' ∧ PS w' b s (wordR s k (-1) lit.data.toList).1 op lg J := by
  have HP0 : Hid (PS w b s k op lg J) := hp
  have HPOS : Hid (∀ i (h : i < lit.size), 0 < (lit[i]'h).toNat) := hpos
  obtain ⟨R, hR⟩ : ∃ R, R = wordR s k (-1) lit.data.toList := ⟨_, rfl⟩
  have HR : Hid (wordR s k (-1) lit.data.toList = R) := hR.symm
  rw [← hR]
  clear hp hR hpos
  go_enter Tryz.func21, Tryz.ntmps21
  go_wp2_with fail
  go_loopg [8] lit.size (fun g i wr => ∃ m : Nat, m ≤ lit.size ∧ g = lit.size - m ∧ i = .int .i64 m ∧ k + m ≤ s.size ∧ wordR s (k + m) (-1) (lit.data.toList.drop m) = R ∧ But b w wr ∧ PS wr b s (k + m) op lg J)
  case atStart => exact ⟨0, by omega, by omega, rfl, by omega, by simpa using HR.out, But.refl _ _, HP0.out⟩
  case round =>
    obtain ⟨m, hm, hg, rfl, hkm, hw, hbut, hp1⟩ := hrel
    have HP : Hid (PS wr b s (k + m) op lg J) := hp1
    have HG : Hid (gk = lit.size - m) := hg
    have HW : Hid (wordR s (k + m) (-1) (lit.data.toList.drop m) = R) := hw
    clear hp1 hg hw
    by_cases hlt : m < lit.size
    · have hp0 := HPOS.out m hlt
      by_cases hy : pk s (k + m) = ((lit[m]'hlt).toNat : Int)
      · have hcv := (wordR_pk (s := s) (k := k + m) hp0).2 hy
        have hkk := (cv_lt (s := s) (k := k + m) (bad := -1) (by omega)).1
        have HY : Hid (pk s (k + m) = ((lit[m]'hlt).toNat : Int)) := hy
        have HN : Hid (wordR s (k + (m + 1)) (-1) (lit.data.toList.drop (m + 1)) = R) := by
          show _ = _
          rw [← HW.out, drop_cons' lit m hlt, wordR, if_pos hcv]; rfl
        clear hy hcv
        go_wp2_with fail
        refine (ptake_yes b s (k + m) op lg _ _ HP.out hkm hs HY.out).mono ?_
        rintro e w' ⟨rfl, hbut2, hp2⟩
        go_wp2_with fail
        go_roundg (lit.size - (m + 1))
        case measure => rw [HG.out]; omega
        case rel => exact ⟨m + 1, by omega, rfl, by go_num, by omega, HN.out, hbut.trans hbut2, hp2⟩
      · have HN : Hid (R = (k + m, failed (k + m) (-1))) := by
          show _ = _
          rw [← HW.out, drop_cons' lit m hlt, wordR, if_neg (fun h => hy ((wordR_pk hp0).1 h))]
        have HY : Hid (pk s (k + m) ≠ ((lit[m]'hlt).toNat : Int)) := hy
        clear hy
        go_wp2_with fail
        refine (ptake_no b s (k + m) op lg _ _ HP.out hkm hs HY.out).mono ?_
        rintro e w' ⟨rfl, hbut2, hp2⟩
        go_wp2_with fail
        refine (wrong_any b s (k + m) op lg _ hp2).mono ?_
        rintro e w3 ⟨rfl, nd, rfl⟩
        go_wp2_with fail
        go_ret
        refine ⟨?_, (hbut.trans hbut2).drewN _, by rw [HN.out]; exact hp2.drewN _⟩
        rw [HN.out, werr, failed_good, if_neg (by show ¬ ((k + m : Nat) : Int) < 0; omega)]; rfl
    · have HN : Hid (R = (k + m, -1)) := by
        show _ = _
        rw [← HW.out, List.drop_eq_nil_of_le (by simp; omega), wordR]
      go_wp2
      go_ret
      refine ⟨?_, hbut, by rw [HN.out]; exact HP.out⟩
      rw [HN.out, werr, if_pos (by simp)]; rfl

set_option maxHeartbeats 400000 in
theorem isDigit_any (c : Int) (w : World) (h0 : 0 ≤ c) (h1 : c ≤ 255) : Calls Tryz.prog 92 #[.int .u8 c] w fun e w' => e = .returned (.bool (isDig c)) ∧ w = w' := by
  rcases (show c < 48 ∨ (48 ≤ c ∧ c ≤ 57) ∨ 57 < c from by omega) with h | h | h
  all_goals
    try obtain ⟨h, h'⟩ := h
    have HE : Hid (isDig c = decide (48 ≤ c ∧ c ≤ 57)) := by show _ = _; simp [isDig]
    go_enter Tryz.func92, Tryz.ntmps92
    go_wp2
    go_ret
    exact ⟨ret_b (by rw [HE.out, eq_comm]; first | exact decide_eq_true (by omega) | exact decide_eq_false (by omega) | (rw [decide_eq_decide]; omega)), rfl⟩

theorem isDig_pk (s : ByteArray) (k : Nat) : isDig (pk s k) = isDig (gb s k) := by
  rcases pk_eq (s := s) (k := k) with ⟨h, _⟩ | ⟨h1, h2⟩
  · rw [h]
  · rw [h1, h2]; rfl

set_option maxHeartbeats 1000000 in
theorem pdigits_any (b : Nat) (s : ByteArray) (k : Nat) (op : Int) (lg : Bool) (w : World) {J : Addr} (hp : PS w b s k op lg J) (hk : k ≤ s.size) (hs : s.size ≤ 1000) :
    Calls Tryz.prog 64 #[.pointer (some ⟨b, 0, none⟩)] w fun e w' => e = .returned (if isDig (gb s k) then .nilIface else errV J k) ∧ But b w w' ∧ PS w' b s (if isDig (gb s k) then runE s k else k) op lg J := by
  have hcb := pk_bd s k
  have HP : Hid (PS w b s k op lg J) := hp
  clear hp
  cases hd : isDig (gb s k)
  · have HD : Hid (isDig (pk s k) = false) := by show _ = _; rw [isDig_pk]; exact hd
    simp only [Bool.false_eq_true, if_false]
    clear hd
    go_enter Tryz.func64, Tryz.ntmps64
    go_wp2_with fail
    refine (peek_any b s k op lg _ HP.out hk hs).mono ?_
    rintro e w1 ⟨rfl, n1, rfl⟩
    go_wp2_with fail
    refine (isDigit_any _ _ hcb.1 hcb.2).mono ?_
    rintro e w2 ⟨rfl, rfl⟩
    rw [HD.out]
    go_wp2_with fail
    refine (wrong_any b s k op lg _ (HP.out.drewN _)).mono ?_
    rintro e w3 ⟨rfl, n3, rfl⟩
    go_wp2_with fail
    go_ret
    exact ⟨rfl, (But.refl _ _).drewN _, HP.out.drewN _⟩
  · have HD : Hid (isDig (pk s k) = true) := by show _ = _; rw [isDig_pk]; exact hd
    simp only [if_true]
    clear hd
    go_enter Tryz.func64, Tryz.ntmps64
    go_wp2_with fail
    refine (peek_any b s k op lg _ HP.out hk hs).mono ?_
    rintro e w1 ⟨rfl, n1, rfl⟩
    go_wp2_with fail
    refine (isDigit_any _ _ hcb.1 hcb.2).mono ?_
    rintro e w2 ⟨rfl, rfl⟩
    rw [HD.out]
    go_wp2_with fail
    go_loopg [] (s.size - k) (fun g wr => ∃ j : Nat, g = s.size - j ∧ j ≤ s.size ∧ runE s j = runE s k ∧ But b w wr ∧ PS wr b s j op lg J)
    case atStart => exact ⟨k, rfl, hk, rfl, (But.refl _ _).drewN _, HP.out.drewN _⟩
    case round =>
      obtain ⟨j, hg, hj, hrn, hbut, hp1⟩ := hrel
      have HP1 : Hid (PS wr b s j op lg J) := hp1
      have HG : Hid (gk = s.size - j) := hg
      have HRN : Hid (runE s j = runE s k) := hrn
      have hcb2 := pk_bd s j
      obtain ⟨g0, g1, g2, g3, hf⟩ := pcells hp1.1
      clear hp1 hg hrn g0 g2 g3
      cases hd : isDig (gb s j)
      · have HD2 : Hid (isDig (pk s j) = false) := by show _ = _; rw [isDig_pk]; exact hd
        have HF : Hid (runE s k = j) := by show _ = _; rw [← HRN.out]; exact runE_no hd
        clear hd
        go_wp2_with fail
        refine (peek_any b s j op lg _ HP1.out hj hs).mono ?_
        rintro e w1 ⟨rfl, n1, rfl⟩
        go_wp2_with fail
        refine (isDigit_any _ _ hcb2.1 hcb2.2).mono ?_
        rintro e w2 ⟨rfl, rfl⟩
        rw [HD2.out]
        go_wp2_with fail
        go_ret
        exact ⟨rfl, hbut.drewN _, by rw [HF.out]; exact HP1.out.drewN _⟩
      · have HD2 : Hid (isDig (pk s j) = true) := by show _ = _; rw [isDig_pk]; exact hd
        have hjs := isDig_lt hd
        have HN : Hid (runE s (j + 1) = runE s k) := by show _ = _; rw [← HRN.out]; exact (runE_dig hd).symm
        clear hd
        go_wp2_with fail
        refine (peek_any b s j op lg _ HP1.out hj hs).mono ?_
        rintro e w1 ⟨rfl, n1, rfl⟩
        go_wp2_with fail
        refine (isDigit_any _ _ hcb2.1 hcb2.2).mono ?_
        rintro e w2 ⟨rfl, rfl⟩
        rw [HD2.out]
        go_wp2_with fail
        go_roundg (s.size - (j + 1))
        case measure => rw [HG.out]; omega
        case rel => exact ⟨j + 1, rfl, hjs, HN.out, (hbut.drewN _).setCell _ _, (HP1.out.drewN _).at (j + 1) (by omega)⟩

end Go.Proofs.YtjaoocincdoaaaaGreatDoor
