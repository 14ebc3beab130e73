/- The program's reader: what a first byte of UTF-8 says; one code point as it is. The program's reader: hex digits, an escaped code point. The program's reader: four hex digits. The program's reader: escaped code points. The program's reader: the two ways to go through a sequence of UTF-8 are one; what was decoded is encoded back. -/
import Derived.Test.YtjaoocincdoaaaaGreatDoorA09
import Derived.Test.YtjaoocincdoaaaaGreatDoorShelf
import Derived.Deep.RegionWith
namespace Go.Proofs.YtjaoocincdoaaaaGreatDoor
open Go.RowKit J

set_option linter.unusedVariables false

/-- 'sequence' as a function of the byte. -/
def seqR (c : Int) : Int × Int × Int :=
  if c < 128 then (1, 0, 0) else if c < 194 then (0, 0, 0) else if c < 224 then (2, 128, 191) else if c = 224 then (3, 160, 191) else if c = 237 then (3, 128, 159)
  else if c < 240 then (3, 128, 191) else if c = 240 then (4, 144, 191) else if c < 244 then (4, 128, 191) else if c = 244 then (4, 128, 143) else (0, 0, 0)

theorem seq_cases {c : Int} : (c < 128 ∧ seqR c = (1, 0, 0)) ∨ (128 ≤ c ∧ c < 194 ∧ seqR c = (0, 0, 0)) ∨ (194 ≤ c ∧ c < 224 ∧ seqR c = (2, 128, 191)) ∨ (c = 224 ∧ seqR c = (3, 160, 191)) ∨ (c = 237 ∧ seqR c = (3, 128, 159)) ∨
    (224 < c ∧ c < 240 ∧ c ≠ 237 ∧ seqR c = (3, 128, 191)) ∨ (c = 240 ∧ seqR c = (4, 144, 191)) ∨ (240 < c ∧ c < 244 ∧ seqR c = (4, 128, 191)) ∨ (c = 244 ∧ seqR c = (4, 128, 143)) ∨ (244 < c ∧ seqR c = (0, 0, 0)) := by
  rcases (show c < 128 ∨ (128 ≤ c ∧ c < 194) ∨ (194 ≤ c ∧ c < 224) ∨ c = 224 ∨ c = 237 ∨ (224 < c ∧ c < 240 ∧ c ≠ 237) ∨ c = 240 ∨ (240 < c ∧ c < 244) ∨ c = 244 ∨ 244 < c from by omega) with h | h | h | h | h | h | h | h | h | h
  · exact .inl ⟨h, by rw [seqR, if_pos h]⟩
  · exact .inr (.inl ⟨h.1, h.2, by rw [seqR, if_neg (by omega), if_pos h.2]⟩)
  · exact .inr (.inr (.inl ⟨h.1, h.2, by rw [seqR, if_neg (by omega), if_neg (by omega), if_pos h.2]⟩))
  · subst h; exact .inr (.inr (.inr (.inl ⟨rfl, rfl⟩)))
  · subst h; exact .inr (.inr (.inr (.inr (.inl ⟨rfl, rfl⟩))))
  · exact .inr (.inr (.inr (.inr (.inr (.inl ⟨h.1, h.2.1, h.2.2, by rw [seqR, if_neg (by omega), if_neg (by omega), if_neg (by omega), if_neg (by omega), if_neg h.2.2, if_pos h.2.1]⟩)))))
  · subst h; exact .inr (.inr (.inr (.inr (.inr (.inr (.inl ⟨rfl, rfl⟩))))))
  · exact .inr (.inr (.inr (.inr (.inr (.inr (.inr (.inl ⟨h.1, h.2, by rw [seqR, if_neg (by omega), if_neg (by omega), if_neg (by omega), if_neg (by omega), if_neg (by omega), if_neg (by omega), if_neg (by omega), if_pos h.2]⟩)))))))
  · subst h; exact .inr (.inr (.inr (.inr (.inr (.inr (.inr (.inr (.inl ⟨rfl, rfl⟩))))))))
  · exact .inr (.inr (.inr (.inr (.inr (.inr (.inr (.inr (.inr ⟨h, by rw [seqR, if_neg (by omega), if_neg (by omega), if_neg (by omega), if_neg (by omega), if_neg (by omega), if_neg (by omega), if_neg (by omega), if_neg (by omega), if_neg (by omega)]⟩))))))))

def seqV (q : Int × Int × Int) : Value := .tuple #[.int .i64 q.1, .int .u8 q.2.1, .int .u8 q.2.2]

set_option maxHeartbeats 1000000 in
theorem sequence_any (c : Int) (w : World) (h0 : 0 ≤ c) (h1 : c ≤ 255) : Calls Tryz.prog 90 #[.int .u8 c] w fun e w' => e = .returned (seqV (seqR c)) ∧ w = w' := by
  rcases seq_cases (c := c) with ⟨h, e⟩ | ⟨h, h', e⟩ | ⟨h, h', e⟩ | ⟨h, e⟩ | ⟨h, e⟩ | ⟨h, h', h3, e⟩ | ⟨h, e⟩ | ⟨h, h', e⟩ | ⟨h, e⟩ | ⟨h, e⟩
  all_goals
    rw [e]; clear e
    first
    | subst h
    | (have n1 : (c == 224) = false := beq_eq_false_iff_ne.2 (by omega)
       have n2 : (c == 237) = false := beq_eq_false_iff_ne.2 (by omega)
       have n3 : (c == 240) = false := beq_eq_false_iff_ne.2 (by omega)
       have n4 : (c == 244) = false := beq_eq_false_iff_ne.2 (by omega))
    go_enter Tryz.func90, Tryz.ntmps90
    go_wp2
    go_ret3
    exact ⟨rfl, rfl⟩

/-- The bytes behind the first one. -/
def contF (s : ByteArray) : Nat → Int → Int → Nat → Nat × Int
  | 0, _, _, k => (k, -1)
  | n + 1, lo, hi, k => if lo ≤ pk s k ∧ pk s k ≤ hi then contF s n 128 191 (k + 1) else (k, k)

/-- 'plain' as a function of the place: the place behind, what is wrong. -/
def plainR (s : ByteArray) (k : Nat) : Nat × Int :=
  if (seqR (pk s k)).1 = 0 then (k, k) else contF s ((seqR (pk s k)).1 - 1).toNat (seqR (pk s k)).2.1 (seqR (pk s k)).2.2 (k + 1)

theorem pk_pos {s : ByteArray} {k : Nat} (h : 0 < pk s k) : k < s.size := by
  unfold pk at h; split at h
  · assumption
  · omega

theorem cell_keep {w w' : World} {g o : Nat} {v : Value} (h : w.cell? ⟨g, o, none⟩ = some v) (e : w'.heap[g]? = w.heap[g]?) : w'.cell? ⟨g, o, none⟩ = some v := by
  rw [← h]; simp only [World.cell?, e]
theorem cell_lt {w : World} {g o : Nat} {v : Value} (h : w.cell? ⟨g, o, none⟩ = some v) : g < w.heap.size := by
  rcases Nat.lt_or_ge g w.heap.size with hl | hg
  · exact hl
  · simp [World.cell?, Array.getElem?_eq_none hg] at h

def Tabs (w : World) : Prop := Lib.Utf8Tabs 10 11 w
theorem tabs_but {w w' : World} {b : Nat} (h : Tabs w) (hb : But b w w') (h12 : 16 ≤ b) : Tabs w' :=
  ⟨fun c hc => cell_keep (h.1 c hc) (hb.block _ (cell_lt (h.1 c hc)) (by simp; omega)),
   fun i hi => ⟨cell_keep (h.2 i hi).1 (hb.block _ (cell_lt (h.2 i hi).1) (by simp; omega)), cell_keep (h.2 i hi).2 (hb.block _ (cell_lt (h.2 i hi).2) (by simp; omega))⟩⟩

theorem seqR_bd (c : Int) : 0 ≤ (seqR c).1 ∧ (seqR c).1 ≤ 4 ∧ 0 ≤ (seqR c).2.1 ∧ (seqR c).2.1 ≤ 255 ∧ 0 ≤ (seqR c).2.2 ∧ (seqR c).2.2 ≤ 255 ∧ ((seqR c).1 ≠ 0 → 128 ≤ c → 0 < (seqR c).2.1) := by
  rcases seq_cases (c := c) with ⟨h, e⟩ | ⟨h, h', e⟩ | ⟨h, h', e⟩ | ⟨h, e⟩ | ⟨h, e⟩ | ⟨h, h', h3, e⟩ | ⟨h, e⟩ | ⟨h, h', e⟩ | ⟨h, e⟩ | ⟨h, e⟩
  all_goals rw [e]; simp <;> omega

theorem contF_bd (s : ByteArray) : ∀ n lo hi k, 0 < lo → k ≤ s.size → k ≤ (contF s n lo hi k).1 ∧ (contF s n lo hi k).1 ≤ s.size
  | 0, lo, hi, k, _, hk => by simp [contF, hk]
  | n + 1, lo, hi, k, hl, hk => by
    rw [contF]; split
    · rename_i h
      have := contF_bd s n 128 191 (k + 1) (by omega) (pk_pos (by omega)); omega
    · simp [hk]

def plainV (J : Addr) (s : ByteArray) (k : Nat) (r : Nat × Int) : Value := if r.2 < 0 then .tuple #[.int .i32 (Lib.decodeGo (s.extract k r.1)).1, .nilIface] else .tuple #[.int .i32 0, errV J r.1]

set_option maxHeartbeats 2000000 in
theorem plain_any (b : Nat) (s : ByteArray) (k : Nat) (op : Int) (lg : Bool) (w : World) {J : Addr} (hp : PS w b s k op lg J) (hT : Tabs w) (h12 : 16 ≤ b) (hk : k < s.size) (hs : s.size ≤ 1000) :
    Calls Tryz.prog 57 #[.pointer (some ⟨b, 0, none⟩)] w fun e w' => e = .returned (plainV J s k (plainR s k)) ∧ But b w w' ∧ PS w' b s (plainR s k).1 op lg J := by
  obtain ⟨g0, g1, g2, g3, hf⟩ := pcells hp.1
  have HP : Hid (PS w b s k op lg J) := hp
  have HT : Hid (Tabs w) := hT
  have hcb := pk_bd s k
  obtain ⟨c, hc⟩ : ∃ c, c = pk s k := ⟨_, rfl⟩
  have HC : Hid (pk s k = c) := hc.symm
  obtain ⟨R, hR⟩ : ∃ R, R = plainR s k := ⟨_, rfl⟩
  have HR : Hid (R = plainR s k) := hR
  rw [← hR]
  rw [← hc] at hcb
  have hq := seqR_bd c
  obtain ⟨q, lo, hi, hqe⟩ : ∃ q lo hi, seqR c = (q, lo, hi) := ⟨_, _, _, rfl⟩
  have HQ : Hid (seqR c = (q, lo, hi)) := hqe
  rw [hqe] at hq
  simp only at hq
  obtain ⟨q0, q1, q2, q3, q4, q5, q6⟩ := hq
  clear hp hT hc hR hqe g0 g2 g3
  by_cases hz : q = 0
  · subst hz
    have HF : Hid (R = (k, (k : Int))) := by show _ = _; rw [HR.out, plainR, HC.out, HQ.out]; rfl
    go_enter Tryz.func57, Tryz.ntmps57
    go_wp2_with fail
    refine (peek_any b s k op lg _ HP.out (by omega) hs).mono ?_
    rintro e w1 ⟨rfl, n1, rfl⟩
    rw [HC.out]
    go_wp2_with fail
    refine (sequence_any c _ hcb.1 hcb.2).mono ?_
    rintro e w2 ⟨rfl, rfl⟩
    rw [HQ.out, seqV]
    go_wp2_with fail
    refine (wrong_any b s k op lg _ (HP.out.drewN _)).mono ?_
    rintro e w3 ⟨rfl, n3, rfl⟩
    go_wp2_with fail
    go_ret2
    refine ⟨?_, (But.refl _ _).drewN _, by rw [HF.out]; exact HP.out.drewN _⟩
    rw [HF.out, plainV, if_neg (by simp)]; rfl
  · have hzb : (q == 0) = false := beq_eq_false_iff_ne.2 hz
    have HF : Hid (R = contF s (q - 1).toNat lo hi (k + 1)) := by show _ = _; rw [HR.out, plainR, HC.out, HQ.out]; simp only; rw [if_neg hz]
    go_enter Tryz.func57, Tryz.ntmps57
    go_wp2_with fail
    refine (peek_any b s k op lg _ HP.out (by omega) hs).mono ?_
    rintro e w1 ⟨rfl, n1, rfl⟩
    rw [HC.out]
    go_wp2_with fail
    refine (sequence_any c _ hcb.1 hcb.2).mono ?_
    rintro e w2 ⟨rfl, rfl⟩
    rw [HQ.out, seqV]
    go_wp2_with fail
    go_loopg [35, 6, 7] 4 (fun g i l h wr => ∃ (m : Nat) (lo' hi' : Int), g = 4 - m ∧ i = .int .i64 m ∧ l = .int .u8 lo' ∧ h = .int .u8 hi' ∧ (m : Int) ≤ q - 1 ∧ 0 ≤ lo' ∧ lo' ≤ 255 ∧ 0 ≤ hi' ∧ hi' ≤ 255 ∧ (0 < lo' ∨ q = 1) ∧ k + 1 + m ≤ s.size ∧ contF s ((q - 1).toNat - m) lo' hi' (k + 1 + m) = R ∧ But b w wr ∧ PS wr b s (k + 1 + m) op lg J)
    case atStart =>
      exact ⟨0, lo, hi, rfl, rfl, rfl, rfl, by omega, q2, q3, q4, q5, by rcases Int.lt_or_le c 128 with h | h; (· right; rcases seq_cases (c := c) with ⟨_, e⟩ | ⟨_, _, e⟩ | ⟨_, _, e⟩ | ⟨_, e⟩ | ⟨_, e⟩ | ⟨_, _, _, e⟩ | ⟨_, e⟩ | ⟨_, _, e⟩ | ⟨_, e⟩ | ⟨_, e⟩ <;> (rw [HQ.out] at e; simp only [Prod.mk.injEq] at e; omega)); (· left; exact q6 hz h), by omega, HF.out.symm, ((But.refl _ _).drewN _).setCell _ _, (HP.out.drewN _).at (k + 1) (by omega)⟩
    case round =>
      obtain ⟨m, lo', hi', hg, rfl, rfl, rfl, hmq, l0, l1, h0, h1, hl, hkm, hcf, hbut, hp1⟩ := hrel
      have HP1 : Hid (PS wr b s (k + 1 + m) op lg J) := hp1
      have HG : Hid (gk = 4 - m) := hg
      have HCF : Hid (contF s ((q - 1).toNat - m) lo' hi' (k + 1 + m) = R) := hcf
      obtain ⟨y0, y1, y2, y3, yf⟩ := pcells hp1.1
      have hcb2 := pk_bd s (k + 1 + m)
      obtain ⟨x, hx⟩ : ∃ x, x = pk s (k + 1 + m) := ⟨_, rfl⟩
      have HX : Hid (pk s (k + 1 + m) = x) := hx.symm
      have hxp : 0 < x → k + 1 + m < s.size := fun h => pk_pos (by omega)
      rw [← hx] at hcb2
      clear hp1 hg hcf hx g1 hf y2 y3 q6
      by_cases hlt : (m : Int) < q - 1
      · clear y0
        have hn : (q - 1).toNat - m = ((q - 1).toNat - (m + 1)) + 1 := by omega
        by_cases hin : lo' ≤ x ∧ x ≤ hi'
        · obtain ⟨i1, i2⟩ := hin
          have hxs := hxp (by omega)
          have HN : Hid (contF s ((q - 1).toNat - (m + 1)) 128 191 (k + 1 + (m + 1)) = R) := by
            show _ = _
            rw [← HCF.out, hn, contF, HX.out, if_pos ⟨i1, i2⟩]; rfl
          clear hn hxp
          go_wp2_with fail
          refine (peek_any b s (k + 1 + m) op lg _ HP1.out (by omega) hs).mono ?_
          rintro e w3 ⟨rfl, n3, rfl⟩
          rw [HX.out]
          go_wp2_with fail
          go_roundg (4 - (m + 1))
          case measure => rw [HG.out]; omega
          case rel => exact ⟨m + 1, 128, 191, rfl, by go_num, rfl, rfl, by omega, by omega, by omega, by omega, by omega, by omega, by omega, HN.out, (hbut.drewN _).setCell _ _, (HP1.out.drewN _).at (k + 1 + (m + 1)) (by omega)⟩
        · have HN : Hid (R = (k + 1 + m, ((k + 1 + m : Nat) : Int))) := by
            show _ = _
            rw [← HCF.out, hn, contF, HX.out, if_neg hin]
          clear hn hxp
          rcases (show x < lo' ∨ (lo' ≤ x ∧ hi' < x) from by omega) with hin | ⟨hin, hin2⟩
          all_goals
            go_wp2_with fail
            refine (peek_any b s (k + 1 + m) op lg _ HP1.out (by omega) hs).mono ?_
            rintro e w3 ⟨rfl, n3, rfl⟩
            rw [HX.out]
            go_wp2_with fail
            refine (wrong_any b s (k + 1 + m) op lg _ (HP1.out.drewN _)).mono ?_
            rintro e w4 ⟨rfl, n4, rfl⟩
            go_wp2_with fail
            go_ret2
            refine ⟨?_, hbut.drewN _, by rw [HN.out]; exact HP1.out.drewN _⟩
            rw [HN.out, plainV, if_neg (by simp; omega)]; rfl
      · have HN : Hid (R = (k + 1 + m, -1)) := by
          show _ = _
          rw [← HCF.out, show (q - 1).toNat - m = 0 by omega, contF]
        have hTT : Tabs wr := tabs_but HT.out hbut h12
        have HTT : Hid (Tabs wr) := hTT
        have b1 : (k : Int) ≤ ((k + 1 + m : Nat) : Int) := by omega
        have b2 : ((k + 1 + m : Nat) : Int) ≤ (s.size : Int) := by omega
        clear hTT hxp
        go_wp2_with fail
        go_region_with (go_at_call 91; (refine (Tryz.utf8_DecodeRuneInString (s.extract k (k + 1 + m)) wr.drew (show Tabs wr.drew from HTT.out)).mono ?_; rintro e w5 ⟨rfl, hbel5⟩))
        all_goals
          have hB5 : But b w w5 := (hbut.drew).of_below hbel5
          have hP5 : PS w5 b s (k + 1 + m) op lg J := ⟨(hbel5.block b (lt_of_heap HP1.out.1)).trans HP1.out.1, (hbel5.block _ (lt_of_heap HP1.out.2.1)).trans HP1.out.2.1, HP1.out.2.2⟩
          go_wp2_with fail
          go_ret2
          refine ⟨?_, hB5, by rw [HN.out]; exact hP5⟩
          rw [HN.out, plainV, if_pos (by simp)]; rfl

end Go.Proofs.YtjaoocincdoaaaaGreatDoor

namespace Go.Proofs.YtjaoocincdoaaaaGreatDoor
open Go.RowKit J

set_option linter.unusedVariables false

/-- 'lower' as a function. -/
def lowR (c : Int) : Int := if 65 ≤ c ∧ c ≤ 90 then c + 32 else c
theorem lowR_bd {c : Int} (h0 : 0 ≤ c) (h1 : c ≤ 255) : 0 ≤ lowR c ∧ lowR c ≤ 255 := by unfold lowR; split <;> omega

set_option maxHeartbeats 400000 in
theorem lower_any (c : Int) (w : World) (h0 : 0 ≤ c) (h1 : c ≤ 255) : Calls Tryz.prog 152 #[.int .u8 c] w fun e w' => e = .returned (.int .u8 (lowR c)) ∧ w = w' := by
  rcases (show c < 65 ∨ (65 ≤ c ∧ c ≤ 90) ∨ 90 < c from by omega) with h | h | h
  · rw [lowR, if_neg (by omega)]
    go_enter Tryz.func152, Tryz.ntmps152
    go_wp2
    go_ret
    exact ⟨rfl, rfl⟩
  · obtain ⟨h, h'⟩ := h
    rw [lowR, if_pos ⟨h, h'⟩]
    go_enter Tryz.func152, Tryz.ntmps152
    go_wp2
    go_ret
    exact ⟨by rw [show c + 32 = c + 97 - 65 from by omega]; rfl, rfl⟩
  · rw [lowR, if_neg (by omega)]
    go_enter Tryz.func152, Tryz.ntmps152
    go_wp2
    go_ret
    exact ⟨rfl, rfl⟩

def hexL : List UInt8 := [48, 49, 50, 51, 52, 53, 54, 55, 56, 57, 97, 98, 99, 100, 101, 102]

set_option maxRecDepth 100000 in
theorem hex_idx_fin : ∀ c : Fin 256, Lib.indexByte hexL ((lowR (c.val : Int)).toNat.toUInt8) = hexv (c.val : Int) := by decide
theorem hex_idx {c : Int} (h0 : 0 ≤ c) (h1 : c ≤ 255) : Lib.indexByte hexL ((lowR c).toNat.toUInt8) = hexv c := by
  have := hex_idx_fin ⟨c.toNat, by omega⟩
  simpa [show ((c.toNat : Nat) : Int) = c from by omega] using this

theorem hexv_pk (s : ByteArray) (k : Nat) : hexv (pk s k) = hexv (gb s k) := by
  rcases pk_eq (s := s) (k := k) with ⟨h, _⟩ | ⟨h1, h2⟩
  · rw [h]
  · rw [h1, h2]; rfl

/-- One hex digit: peek, lower, IndexByte. -/
theorem digit_idx (s : ByteArray) (k : Nat) (w : World) : Calls Tryz.prog 43 #[.string ⟨#[48, 49, 50, 51, 52, 53, 54, 55, 56, 57, 97, 98, 99, 100, 101, 102]⟩, .int .u8 (lowR (pk s k))] w fun e w' => e = .returned (.int .i64 (hexv (gb s k))) ∧ w = w' := by
  refine (Tryz.strings_IndexByte _ _ w).mono ?_
  rintro e w' ⟨rfl, rfl⟩
  have hb := pk_bd s k
  refine ⟨?_, rfl⟩
  rw [← hexv_pk, ← hex_idx hb.1 hb.2]; rfl

end Go.Proofs.YtjaoocincdoaaaaGreatDoor

namespace Go.Proofs.YtjaoocincdoaaaaGreatDoor
open Go.RowKit J

set_option linter.unusedVariables false

/-- 'unit' from its round 4 - r on: the number, the place, what is wrong. -/
def unitF (s : ByteArray) (low : Bool) : Nat → Int → Nat → Int × Nat × Int
  | 0, u, k => (u, k, -1)
  | r + 1, u, k =>
    if hexv (gb s k) < 0 ∨ (r = 3 ∧ low = true ∧ hexv (gb s k) ≠ 13) then (0, k, k)
    else if r = 2 ∧ decide ((u * 16 + hexv (gb s k)) / 4 = 55) ≠ low then (0, k, k)
    else unitF s low r (u * 16 + hexv (gb s k)) (k + 1)

def unitV (J : Addr) (r : Int × Nat × Int) : Value := if r.2.2 < 0 then .tuple #[.int .i32 r.1, .nilIface] else .tuple #[.int .i32 0, errV J r.2.1]

theorem or16 (u d : Nat) (hu : u < 4096) (hd : d < 16) : bits BinOp.or IntKind.i32 ((u * 16 : Nat) : Int) (d : Int) = ((u * 16 + d : Nat) : Int) := by
  have ho : (u * 16) ||| d = u * 16 + d := by
    have := Nat.two_pow_add_eq_or_of_lt (i := 4) (b := d) (by omega) u
    rw [show u * 16 = 2 ^ 4 * u by omega]; exact this.symm
  have hx : (u * 16) ||| d < 2 ^ 32 := by omega
  have h1 : (BitVec.ofInt 32 ((u * 16 : Nat) : Int)).toNat = u * 16 := by
    rw [BitVec.ofInt_natCast, BitVec.toNat_ofNat]; exact Nat.mod_eq_of_lt (by omega)
  have h2 : (BitVec.ofInt 32 (d : Int)).toNat = d := by
    rw [BitVec.ofInt_natCast, BitVec.toNat_ofNat]; exact Nat.mod_eq_of_lt (by omega)
  show IntKind.i32.wrap ((BitVec.ofInt 32 ((u * 16 : Nat) : Int) ||| BitVec.ofInt 32 (d : Int)).toNat : Int) = _
  rw [BitVec.toNat_or, h1, h2, ho, IntKind.wrap_i32]
  omega

theorem or16i {x : Nat} {d : Int} (hx : x < 4096) (h0 : 0 ≤ d) (h1 : d ≤ 15) : bits BinOp.or IntKind.i32 (wrap32 ((x : Int) * 16)) d = ((x * 16 + d.toNat : Nat) : Int) := by
  rw [← or16 x d.toNat hx (by omega)]
  congr 1
  · unfold wrap32; omega
  · omega

set_option maxHeartbeats 4000000 in
theorem unit_any (b : Nat) (s : ByteArray) (k : Nat) (op : Int) (lg low : Bool) (w : World) {J : Addr} (hp : PS w b s k op lg J) (hk : k ≤ s.size) (hs : s.size ≤ 1000) :
    Calls Tryz.prog 126 #[.pointer (some ⟨b, 0, none⟩), .bool low] w fun e w' => e = .returned (unitV J (unitF s low 4 0 k)) ∧ But b w w' ∧ PS w' b s (unitF s low 4 0 k).2.1 op lg J := by
  have HP : Hid (PS w b s k op lg J) := hp
  obtain ⟨R, hR⟩ : ∃ R, R = unitF s low 4 0 k := ⟨_, rfl⟩
  have HR : Hid (unitF s low 4 0 k = R) := hR.symm
  rw [← hR]
  clear hp hR
  go_enter Tryz.func126, Tryz.ntmps126
  go_wp2_with fail
  go_loopg [9, 6] 4 (fun g i u wr => ∃ (m : Nat) (x : Nat), g = 4 - m ∧ m ≤ 4 ∧ i = .int .i64 m ∧ u = .int .i32 (x : Int) ∧ x < 16 ^ m ∧ k + m ≤ s.size ∧ unitF s low (4 - m) x (k + m) = R ∧ But b w wr ∧ PS wr b s (k + m) op lg J)
  case atStart => exact ⟨0, 0, rfl, by omega, rfl, rfl, by omega, by omega, HR.out, But.refl _ _, HP.out⟩
  case round =>
    obtain ⟨m, x, hg, hm, rfl, rfl, hx, hkm, hu, hbut, hp1⟩ := hrel
    have HP1 : Hid (PS wr b s (k + m) op lg J) := hp1
    have HG : Hid (gk = 4 - m) := hg
    have HU : Hid (unitF s low (4 - m) x (k + m) = R) := hu
    obtain ⟨y0, y1, y2, y3, yf⟩ := pcells hp1.1
    have hcb := pk_bd s (k + m)
    have hvb := hexv_bd (gb s (k + m))
    obtain ⟨d, hd⟩ : ∃ d, d = hexv (gb s (k + m)) := ⟨_, rfl⟩
    have HD : Hid (hexv (gb s (k + m)) = d) := hd.symm
    have hdl : 0 ≤ d → k + m < s.size := fun h => by
      apply lt_of_gb
      rcases Int.lt_or_le (gb s (k + m)) 0 with hh | hh
      · have := hexv_neg hh; omega
      · exact hh
    rw [← hd] at hvb
    clear hp1 hg hu hd y0 y2 y3
    by_cases h4 : m < 4
    · have HX4 : Hid (x < 4096) := by
        show x < 4096
        have : 16 ^ m ≤ 16 ^ 3 := Nat.pow_le_pow_right (by omega) (by omega)
        omega
      obtain ⟨r, hr⟩ : ∃ r, 4 - m = r + 1 := ⟨3 - m, by omega⟩
      have HS : Hid ((if d < 0 ∨ (m = 0 ∧ low = true ∧ d ≠ 13) then (0, k + m, ((k + m : Nat) : Int)) else if m = 1 ∧ decide (((x : Int) * 16 + d) / 4 = 55) ≠ low then (0, k + m, ((k + m : Nat) : Int)) else unitF s low (4 - (m + 1)) ((x : Int) * 16 + d) (k + (m + 1))) = R) := by
        show _ = _
        rw [← HU.out, hr, unitF, HD.out, show 4 - (m + 1) = r by omega]
        have e1 : (r = 3) = (m = 0) := by rw [eq_iff_iff]; omega
        have e2 : (r = 2) = (m = 1) := by rw [eq_iff_iff]; omega
        simp only [e1, e2, Nat.add_assoc]
      clear hr
      by_cases hneg : d < 0
      · have HN : Hid (R = (0, k + m, ((k + m : Nat) : Int))) := by show _ = _; rw [← HS.out, if_pos (.inl hneg)]
        clear hdl
        go_wp2_with fail
        refine (peek_any b s (k + m) op lg _ HP1.out hkm hs).mono ?_
        rintro e w3 ⟨rfl, n3, rfl⟩
        go_wp2_with fail
        refine (lower_any _ _ hcb.1 hcb.2).mono ?_
        rintro e w4 ⟨rfl, rfl⟩
        go_wp2_with fail
        refine (digit_idx s (k + m) _).mono ?_
        rintro e w5 ⟨rfl, rfl⟩
        rw [HD.out]
        go_wp2_with fail
        refine (wrong_any b s (k + m) op lg _ (HP1.out.drewN _)).mono ?_
        rintro e w6 ⟨rfl, n6, rfl⟩
        go_wp2_with fail
        go_ret2
        refine ⟨?_, hbut.drewN _, by rw [HN.out]; exact HP1.out.drewN _⟩
        rw [HN.out, unitV, if_neg (by show ¬ ((_ : Nat) : Int) < 0; omega)]; rfl
      · have hks := hdl (by omega)
        have HXN : Hid (x * 16 + d.toNat < 16 ^ (m + 1)) := by show _ < _; rw [Nat.pow_succ]; omega
        clear hdl
        rcases (show m = 0 ∨ m = 1 ∨ 2 ≤ m from by omega) with hm0 | hm1 | hm2
        · subst hm0
          have hx0 : x = 0 := by simpa using hx
          cases low
          · have HN : Hid (unitF s false (4 - (0 + 1)) ((x : Int) * 16 + d) (k + (0 + 1)) = R) := by
              show _ = _; rw [← HS.out, if_neg (by simp; omega), if_neg (by simp)]
            go_wp2_with fail
            refine (peek_any b s (k + 0) op lg _ HP1.out hkm hs).mono ?_
            rintro e w3 ⟨rfl, n3, rfl⟩
            go_wp2_with fail
            refine (lower_any _ _ hcb.1 hcb.2).mono ?_
            rintro e w4 ⟨rfl, rfl⟩
            go_wp2_with fail
            refine (digit_idx s (k + 0) _).mono ?_
            rintro e w5 ⟨rfl, rfl⟩
            rw [HD.out]
            go_wp2_with fail
            go_roundg (4 - (0 + 1))
            case measure => rw [HG.out]; omega
            case rel => exact ⟨0 + 1, x * 16 + d.toNat, rfl, by omega, by go_num, congrArg _ (by omega), HXN.out, by omega, by rw [← HN.out]; congr 1; omega, (hbut.drewN _).setCell _ _, (HP1.out.drewN _).at (k + (0 + 1)) (by omega)⟩
          · by_cases h13 : d = 13
            · subst h13
              have HN : Hid (unitF s true (4 - (0 + 1)) ((x : Int) * 16 + 13) (k + (0 + 1)) = R) := by
                show _ = _; rw [← HS.out, if_neg (by simp), if_neg (by simp)]
              go_wp2_with fail
              refine (peek_any b s (k + 0) op lg _ HP1.out hkm hs).mono ?_
              rintro e w3 ⟨rfl, n3, rfl⟩
              go_wp2_with fail
              refine (lower_any _ _ hcb.1 hcb.2).mono ?_
              rintro e w4 ⟨rfl, rfl⟩
              go_wp2_with fail
              refine (digit_idx s (k + 0) _).mono ?_
              rintro e w5 ⟨rfl, rfl⟩
              rw [HD.out]
              go_wp2_with fail
              go_roundg (4 - (0 + 1))
              case measure => rw [HG.out]; omega
              case rel => exact ⟨0 + 1, x * 16 + 13, rfl, by omega, by go_num, congrArg _ (by omega), HXN.out, by omega, by rw [← HN.out]; congr 1, (hbut.drewN _).setCell _ _, (HP1.out.drewN _).at (k + (0 + 1)) (by omega)⟩
            · have n13 : (d != 13) = true := by rw [bne_iff_ne]; exact h13
              have HN : Hid (R = (0, k + 0, ((k + 0 : Nat) : Int))) := by
                show _ = _; rw [← HS.out, if_pos (.inr ⟨rfl, rfl, h13⟩)]
              go_wp2_with fail
              refine (peek_any b s (k + 0) op lg _ HP1.out hkm hs).mono ?_
              rintro e w3 ⟨rfl, n3, rfl⟩
              go_wp2_with fail
              refine (lower_any _ _ hcb.1 hcb.2).mono ?_
              rintro e w4 ⟨rfl, rfl⟩
              go_wp2_with fail
              refine (digit_idx s (k + 0) _).mono ?_
              rintro e w5 ⟨rfl, rfl⟩
              rw [HD.out]
              go_wp2_with fail
              refine (wrong_any b s (k + 0) op lg _ (HP1.out.drewN _)).mono ?_
              rintro e w6 ⟨rfl, n6, rfl⟩
              go_wp2_with fail
              go_ret2
              refine ⟨?_, hbut.drewN _, by rw [HN.out]; exact HP1.out.drewN _⟩
              rw [HN.out, unitV, if_neg (by show ¬ ((_ : Nat) : Int) < 0; omega)]; rfl
        · subst hm1
          obtain ⟨y, hy⟩ : ∃ y : Int, y = (x : Int) * 16 + d := ⟨_, rfl⟩
          have ho : bits BinOp.or IntKind.i32 (wrap32 ((x : Int) * 16)) d = y := by rw [or16i HX4.out (by omega) (by omega)]; omega
          have hx16 : x < 16 := by simpa using hx
          have ho' : bits BinOp.or IntKind.i32 ((x : Int) * 16) d = y := by rw [← ho]; congr 1; unfold wrap32; omega
          have HY : Hid (y = (x : Int) * 16 + d) := hy
          have hy0 : 0 ≤ y := by omega
          have hy1 : y ≤ 255 := by omega
          have HSY : Hid ((if d < 0 ∨ ((1 : Nat) = 0 ∧ low = true ∧ d ≠ 13) then (0, k + 1, ((k + 1 : Nat) : Int)) else if (1 : Nat) = 1 ∧ decide (y / 4 = 55) ≠ low then (0, k + 1, ((k + 1 : Nat) : Int)) else unitF s low (4 - (1 + 1)) y (k + (1 + 1))) = R) := by show _ = _; rw [HY.out]; exact HS.out
          clear hy HS
          by_cases h55 : y / 4 = 55
          · have hb5 : (y / 4 == 55) = true := by rw [beq_iff_eq]; exact h55
            cases low
            · have HN : Hid (R = (0, k + 1, ((k + 1 : Nat) : Int))) := by show _ = _; rw [← HSY.out, if_neg (by simp; omega), if_pos ⟨rfl, by simp [h55]⟩]
              go_wp2_with fail
              refine (peek_any b s (k + 1) op lg _ HP1.out hkm hs).mono ?_
              rintro e w3 ⟨rfl, n3, rfl⟩
              go_wp2_with fail
              refine (lower_any _ _ hcb.1 hcb.2).mono ?_
              rintro e w4 ⟨rfl, rfl⟩
              go_wp2_with fail
              refine (digit_idx s (k + 1) _).mono ?_
              rintro e w5 ⟨rfl, rfl⟩
              rw [HD.out]
              go_wp2_with fail
              refine (wrong_any b s (k + 1) op lg _ (HP1.out.drewN _)).mono ?_
              rintro e w6 ⟨rfl, n6, rfl⟩
              go_wp2_with fail
              go_ret2
              refine ⟨?_, hbut.drewN _, by rw [HN.out]; exact HP1.out.drewN _⟩
              rw [HN.out, unitV, if_neg (by show ¬ ((_ : Nat) : Int) < 0; omega)]; rfl
            · have HN : Hid (unitF s true (4 - (1 + 1)) y (k + (1 + 1)) = R) := by show _ = _; rw [← HSY.out, if_neg (by simp; omega), if_neg (by simp [h55])]
              go_wp2_with fail
              refine (peek_any b s (k + 1) op lg _ HP1.out hkm hs).mono ?_
              rintro e w3 ⟨rfl, n3, rfl⟩
              go_wp2_with fail
              refine (lower_any _ _ hcb.1 hcb.2).mono ?_
              rintro e w4 ⟨rfl, rfl⟩
              go_wp2_with fail
              refine (digit_idx s (k + 1) _).mono ?_
              rintro e w5 ⟨rfl, rfl⟩
              rw [HD.out]
              go_wp2_with fail
              go_roundg (4 - (1 + 1))
              case measure => rw [HG.out]; omega
              case rel => exact ⟨1 + 1, y.toNat, rfl, by omega, by go_num, congrArg _ (by omega), by omega, by omega, by rw [← HN.out]; congr 1; omega, (hbut.drewN _).setCell _ _, (HP1.out.drewN _).at (k + (1 + 1)) (by omega)⟩
          · have hb5 : (y / 4 == 55) = false := beq_eq_false_iff_ne.2 h55
            cases low
            · have HN : Hid (unitF s false (4 - (1 + 1)) y (k + (1 + 1)) = R) := by show _ = _; rw [← HSY.out, if_neg (by simp; omega), if_neg (by simp [h55])]
              go_wp2_with fail
              refine (peek_any b s (k + 1) op lg _ HP1.out hkm hs).mono ?_
              rintro e w3 ⟨rfl, n3, rfl⟩
              go_wp2_with fail
              refine (lower_any _ _ hcb.1 hcb.2).mono ?_
              rintro e w4 ⟨rfl, rfl⟩
              go_wp2_with fail
              refine (digit_idx s (k + 1) _).mono ?_
              rintro e w5 ⟨rfl, rfl⟩
              rw [HD.out]
              go_wp2_with fail
              go_roundg (4 - (1 + 1))
              case measure => rw [HG.out]; omega
              case rel => exact ⟨1 + 1, y.toNat, rfl, by omega, by go_num, congrArg _ (by omega), by omega, by omega, by rw [← HN.out]; congr 1; omega, (hbut.drewN _).setCell _ _, (HP1.out.drewN _).at (k + (1 + 1)) (by omega)⟩
            · have HN : Hid (R = (0, k + 1, ((k + 1 : Nat) : Int))) := by show _ = _; rw [← HSY.out, if_neg (by simp; omega), if_pos ⟨rfl, by simp [h55]⟩]
              go_wp2_with fail
              refine (peek_any b s (k + 1) op lg _ HP1.out hkm hs).mono ?_
              rintro e w3 ⟨rfl, n3, rfl⟩
              go_wp2_with fail
              refine (lower_any _ _ hcb.1 hcb.2).mono ?_
              rintro e w4 ⟨rfl, rfl⟩
              go_wp2_with fail
              refine (digit_idx s (k + 1) _).mono ?_
              rintro e w5 ⟨rfl, rfl⟩
              rw [HD.out]
              go_wp2_with fail
              refine (wrong_any b s (k + 1) op lg _ (HP1.out.drewN _)).mono ?_
              rintro e w6 ⟨rfl, n6, rfl⟩
              go_wp2_with fail
              go_ret2
              refine ⟨?_, hbut.drewN _, by rw [HN.out]; exact HP1.out.drewN _⟩
              rw [HN.out, unitV, if_neg (by show ¬ ((_ : Nat) : Int) < 0; omega)]; rfl
        · have n0 : ((m : Int) == 0) = false := beq_eq_false_iff_ne.2 (by omega)
          have n1 : ((m : Int) == 1) = false := beq_eq_false_iff_ne.2 (by omega)
          go_wp2_with fail
          refine (peek_any b s (k + m) op lg _ HP1.out hkm hs).mono ?_
          rintro e w3 ⟨rfl, n3, rfl⟩
          go_wp2_with fail
          refine (lower_any _ _ hcb.1 hcb.2).mono ?_
          rintro e w4 ⟨rfl, rfl⟩
          go_wp2_with fail
          refine (digit_idx s (k + m) _).mono ?_
          rintro e w5 ⟨rfl, rfl⟩
          rw [HD.out]
          go_wp2_with fail
          go_roundg (4 - (m + 1))
          case measure => rw [HG.out]; omega
          case rel => exact ⟨m + 1, x * 16 + d.toNat, rfl, by omega, by go_num, congrArg _ (or16i HX4.out (by omega) (by omega)), HXN.out, by omega, by rw [← HS.out, if_neg (by omega), if_neg (by omega)]; congr 1; omega, (hbut.drewN _).setCell _ _, (HP1.out.drewN _).at (k + (m + 1)) (by omega)⟩
    · have hme : m = 4 := by omega
      have HN : Hid (R = ((x : Int), k + m, -1)) := by show _ = _; rw [← HU.out, show 4 - m = 0 by omega, unitF]
      clear hdl
      go_wp2_with fail
      go_ret2
      refine ⟨?_, hbut, by rw [HN.out]; exact HP1.out⟩
      rw [HN.out, unitV, if_pos (by simp)]; rfl

end Go.Proofs.YtjaoocincdoaaaaGreatDoor

namespace Go.Proofs.YtjaoocincdoaaaaGreatDoor
open Go.RowKit J

set_option linter.unusedVariables false

theorem hexR_cases (s : ByteArray) (k : Nat) (lo hi : Int) :
    (0 ≤ hexv (gb s k) ∧ lo ≤ hexv (gb s k) ∧ hexv (gb s k) ≤ hi ∧ hexR s k (-1) lo hi = (hexv (gb s k), k + 1, -1)) ∨ ((hexv (gb s k) < lo ∨ hi < hexv (gb s k) ∨ hexv (gb s k) < 0) ∧ hexR s k (-1) lo hi = (0, k, (k : Int))) := by
  by_cases h : hexv (gb s k) < lo ∨ hi < hexv (gb s k) ∨ hexv (gb s k) < 0
  · right; refine ⟨h, ?_⟩; rw [hexR, cv_good, if_pos h, failed_good]
  · left; refine ⟨by omega, by omega, by omega, ?_⟩; rw [hexR, cv_good, if_neg h]
theorem hexR_ded (s : ByteArray) (k : Nat) {bad : Int} (lo hi : Int) (h : 0 ≤ bad) : hexR s k bad lo hi = (0, k, bad) := by
  rw [hexR, cv_dead s k h, if_pos (by rw [hexv_neg (by omega)]; omega), failed_dead k h]
theorem wordR_ded (s : ByteArray) (c : UInt8) (l : List UInt8) (k : Nat) {bad : Int} (h : 0 ≤ bad) : wordR s k bad (c :: l) = (k, bad) := by
  rw [wordR, cv_dead s k h, if_neg (by omega), failed_dead k h]
theorem uF (s : ByteArray) (low : Bool) (r : Nat) (u : Int) (k : Nat) : unitF s low (r + 1) u k =
    if hexv (gb s k) < 0 ∨ (r = 3 ∧ low = true ∧ hexv (gb s k) ≠ 13) then (0, k, (k : Int))
    else if r = 2 ∧ decide ((u * 16 + hexv (gb s k)) / 4 = 55) ≠ low then (0, k, (k : Int))
    else unitF s low r (u * 16 + hexv (gb s k)) (k + 1) := rfl

/-- The last two digits. -/
theorem unit_end {s : ByteArray} {low : Bool} {k : Nat} {u c d : Int} {k3 k4 : Nat} {b3 b4 : Int} (h3 : hexR s k (-1) 0 15 = (c, k3, b3)) (h4 : hexR s k3 b3 0 15 = (d, k4, b4)) :
    (b4 = -1 ∧ unitF s low 2 u k = ((u * 16 + c) * 16 + d, k4, b4)) ∨ (0 ≤ b4 ∧ (k4 : Int) = b4 ∧ unitF s low 2 u k = (0, k4, b4)) := by
  have hb := hexv_bd (gb s k)
  rw [show unitF s low 2 u k = _ from uF s low 1 u k]
  rcases hexR_cases s k 0 15 with ⟨g0, g1, g2, e⟩ | ⟨g, e⟩
  · rw [e, Prod.mk.injEq, Prod.mk.injEq] at h3
    obtain ⟨rfl, rfl, rfl⟩ := h3
    rw [if_neg (by omega), if_neg (by omega), show ∀ x, unitF s low 1 x (k + 1) = _ from fun x => uF s low 0 x (k + 1)]
    have hb2 := hexv_bd (gb s (k + 1))
    rcases hexR_cases s (k + 1) 0 15 with ⟨q0, q1, q2, e2⟩ | ⟨q, e2⟩
    · rw [e2, Prod.mk.injEq, Prod.mk.injEq] at h4
      obtain ⟨rfl, rfl, rfl⟩ := h4
      left; rw [if_neg (by omega), if_neg (by omega), unitF]; exact ⟨rfl, rfl⟩
    · rw [e2, Prod.mk.injEq, Prod.mk.injEq] at h4
      obtain ⟨rfl, rfl, rfl⟩ := h4
      right; rw [if_pos (.inl (by omega))]; exact ⟨by omega, rfl, rfl⟩
  · rw [e, Prod.mk.injEq, Prod.mk.injEq] at h3
    obtain ⟨rfl, rfl, rfl⟩ := h3
    rw [hexR_ded s k 0 15 (by omega), Prod.mk.injEq, Prod.mk.injEq] at h4
    obtain ⟨rfl, rfl, rfl⟩ := h4
    right; rw [if_pos (.inl (by omega))]; exact ⟨by omega, rfl, rfl⟩

theorem unit_hi {s : ByteArray} {k : Nat} {a b c d m : Int} {k1 k2 k3 k4 : Nat} {b1 b2 b3 b4 : Int} (h1 : hexR s k (-1) 0 15 = (a, k1, b1)) (hm : m = if a = 13 then 11 else 15) (h2 : hexR s k1 b1 0 m = (b, k2, b2)) (h3 : hexR s k2 b2 0 15 = (c, k3, b3)) (h4 : hexR s k3 b3 0 15 = (d, k4, b4)) :
    (b4 = -1 ∧ unitF s false 4 0 k = (((a * 16 + b) * 16 + c) * 16 + d, k4, b4)) ∨ (0 ≤ b4 ∧ (k4 : Int) = b4 ∧ unitF s false 4 0 k = (0, k4, b4)) := by
  have hb := hexv_bd (gb s k)
  rw [show unitF s false 4 0 k = _ from uF s false 3 0 k]
  rcases hexR_cases s k 0 15 with ⟨g0, g1, g2, e⟩ | ⟨g, e⟩
  · rw [e, Prod.mk.injEq, Prod.mk.injEq] at h1
    obtain ⟨rfl, rfl, rfl⟩ := h1
    rw [if_neg (by simp; omega), if_neg (by omega), show ∀ x, unitF s false 3 x (k + 1) = _ from fun x => uF s false 2 x (k + 1)]
    have hb2 := hexv_bd (gb s (k + 1))
    have hm2 : (hexv (gb s k) = 13 ∧ m = 11) ∨ (hexv (gb s k) ≠ 13 ∧ m = 15) := by split at hm <;> omega
    rcases hexR_cases s (k + 1) 0 m with ⟨q0, q1, q2, e2⟩ | ⟨q, e2⟩
    · rw [e2, Prod.mk.injEq, Prod.mk.injEq] at h2
      obtain ⟨rfl, rfl, rfl⟩ := h2
      rw [if_neg (by simp; omega), if_neg (by simp; omega)]
      have := unit_end (s := s) (low := false) (u := (0 * 16 + hexv (gb s k)) * 16 + hexv (gb s (k + 1))) h3 h4
      simpa using this
    · rw [e2, Prod.mk.injEq, Prod.mk.injEq] at h2
      obtain ⟨rfl, rfl, rfl⟩ := h2
      rw [hexR_ded s _ 0 15 (by omega), Prod.mk.injEq, Prod.mk.injEq] at h3
      obtain ⟨rfl, rfl, rfl⟩ := h3
      rw [hexR_ded s _ 0 15 (by omega), Prod.mk.injEq, Prod.mk.injEq] at h4
      obtain ⟨rfl, rfl, rfl⟩ := h4
      right
      refine ⟨by omega, rfl, ?_⟩
      by_cases hn : hexv (gb s (k + 1)) < 0
      · rw [if_pos (.inl hn)]
      · rw [if_neg (by simp; omega), if_pos ⟨rfl, by simp; omega⟩]
  · rw [e, Prod.mk.injEq, Prod.mk.injEq] at h1
    obtain ⟨rfl, rfl, rfl⟩ := h1
    rw [hexR_ded s _ 0 _ (by omega), Prod.mk.injEq, Prod.mk.injEq] at h2
    obtain ⟨rfl, rfl, rfl⟩ := h2
    rw [hexR_ded s _ 0 15 (by omega), Prod.mk.injEq, Prod.mk.injEq] at h3
    obtain ⟨rfl, rfl, rfl⟩ := h3
    rw [hexR_ded s _ 0 15 (by omega), Prod.mk.injEq, Prod.mk.injEq] at h4
    obtain ⟨rfl, rfl, rfl⟩ := h4
    right; rw [if_pos (.inl (by omega))]; exact ⟨by omega, rfl, rfl⟩

theorem unit_lo {s : ByteArray} {k : Nat} {x e f g : Int} {k1 k2 k3 k4 : Nat} {b1 b2 b3 b4 : Int} (h1 : hexR s k (-1) 13 13 = (x, k1, b1)) (h2 : hexR s k1 b1 12 15 = (e, k2, b2)) (h3 : hexR s k2 b2 0 15 = (f, k3, b3)) (h4 : hexR s k3 b3 0 15 = (g, k4, b4)) :
    (b4 = -1 ∧ unitF s true 4 0 k = (((13 * 16 + e) * 16 + f) * 16 + g, k4, b4)) ∨ (0 ≤ b4 ∧ (k4 : Int) = b4 ∧ unitF s true 4 0 k = (0, k4, b4)) := by
  have hb := hexv_bd (gb s k)
  rw [show unitF s true 4 0 k = _ from uF s true 3 0 k]
  rcases hexR_cases s k 13 13 with ⟨g0, g1, g2, e1⟩ | ⟨g1, e1⟩
  · rw [e1, Prod.mk.injEq, Prod.mk.injEq] at h1
    obtain ⟨hx, rfl, rfl⟩ := h1
    have h13 : hexv (gb s k) = 13 := by omega
    rw [if_neg (by simp; omega), if_neg (by omega), show ∀ x, unitF s true 3 x (k + 1) = _ from fun x => uF s true 2 x (k + 1), h13]
    have hb2 := hexv_bd (gb s (k + 1))
    rcases hexR_cases s (k + 1) 12 15 with ⟨q0, q1, q2, e2⟩ | ⟨q, e2⟩
    · rw [e2, Prod.mk.injEq, Prod.mk.injEq] at h2
      obtain ⟨rfl, rfl, rfl⟩ := h2
      rw [if_neg (by simp; omega), if_neg (by simp; omega)]
      have := unit_end (s := s) (low := true) (u := (0 * 16 + 13) * 16 + hexv (gb s (k + 1))) h3 h4
      simpa using this
    · rw [e2, Prod.mk.injEq, Prod.mk.injEq] at h2
      obtain ⟨rfl, rfl, rfl⟩ := h2
      rw [hexR_ded s _ 0 15 (by omega), Prod.mk.injEq, Prod.mk.injEq] at h3
      obtain ⟨rfl, rfl, rfl⟩ := h3
      rw [hexR_ded s _ 0 15 (by omega), Prod.mk.injEq, Prod.mk.injEq] at h4
      obtain ⟨rfl, rfl, rfl⟩ := h4
      right
      refine ⟨by omega, rfl, ?_⟩
      by_cases hn : hexv (gb s (k + 1)) < 0
      · rw [if_pos (.inl hn)]
      · rw [if_neg (by simp; omega), if_pos ⟨rfl, by simp; omega⟩]
  · rw [e1, Prod.mk.injEq, Prod.mk.injEq] at h1
    obtain ⟨rfl, rfl, rfl⟩ := h1
    rw [hexR_ded s _ 12 _ (by omega), Prod.mk.injEq, Prod.mk.injEq] at h2
    obtain ⟨rfl, rfl, rfl⟩ := h2
    rw [hexR_ded s _ 0 15 (by omega), Prod.mk.injEq, Prod.mk.injEq] at h3
    obtain ⟨rfl, rfl, rfl⟩ := h3
    rw [hexR_ded s _ 0 15 (by omega), Prod.mk.injEq, Prod.mk.injEq] at h4
    obtain ⟨rfl, rfl, rfl⟩ := h4
    right; rw [if_pos (by simp; omega)]; exact ⟨by omega, rfl, rfl⟩

/-- 'hexPoint' as a function of the place. -/
def hpR (s : ByteArray) (k : Nat) : Int × Nat × Int :=
  if 0 ≤ (unitF s false 4 0 k).2.2 ∨ (unitF s false 4 0 k).1 / 1024 ≠ 54 then unitF s false 4 0 k
  else if 0 ≤ (wordR s (unitF s false 4 0 k).2.1 (-1) [92, 117]).2 then (0, wordR s (unitF s false 4 0 k).2.1 (-1) [92, 117])
  else (65536 + ((unitF s false 4 0 k).1 - 55296) * 1024 + ((unitF s true 4 0 (wordR s (unitF s false 4 0 k).2.1 (-1) [92, 117]).1).1 - 56320), (unitF s true 4 0 (wordR s (unitF s false 4 0 k).2.1 (-1) [92, 117]).1).2)

theorem wordR_place {s : ByteArray} : ∀ {l : List UInt8} {k : Nat}, (wordR s k (-1) l).2 = -1 ∨ (wordR s k (-1) l).2 = ((wordR s k (-1) l).1 : Int)
  | [], k => by left; rfl
  | c :: l, k => by
    rw [wordR]; split
    · exact wordR_place
    · right; rw [failed_good]

theorem hpR_escR (s : ByteArray) (k : Nat) : (hpR s k).2 = (escR s k (-1)).2 ∧ ((escR s k (-1)).2.2 < 0 → (hpR s k).1 = (escR s k (-1)).1) ∧ ((escR s k (-1)).2.2 = -1 ∨ (escR s k (-1)).2.2 = ((escR s k (-1)).2.1 : Int)) := by
  obtain ⟨a, k1, b1, h1⟩ : ∃ a k1 b1, hexR s k (-1) 0 15 = (a, k1, b1) := ⟨_, _, _, rfl⟩
  obtain ⟨m, hm⟩ : ∃ m : Int, m = if a = 13 then 11 else 15 := ⟨_, rfl⟩
  obtain ⟨b, k2, b2, h2⟩ : ∃ b k2 b2, hexR s k1 b1 0 m = (b, k2, b2) := ⟨_, _, _, rfl⟩
  obtain ⟨c, k3, b3, h3⟩ : ∃ c k3 b3, hexR s k2 b2 0 15 = (c, k3, b3) := ⟨_, _, _, rfl⟩
  obtain ⟨d, k4, b4, h4⟩ : ∃ d k4 b4, hexR s k3 b3 0 15 = (d, k4, b4) := ⟨_, _, _, rfl⟩
  obtain ⟨k5, b5, h5⟩ : ∃ k5 b5, wordR s k4 b4 [92, 117] = (k5, b5) := ⟨_, _, rfl⟩
  obtain ⟨x, k6, b6, h6⟩ : ∃ x k6 b6, hexR s k5 b5 13 13 = (x, k6, b6) := ⟨_, _, _, rfl⟩
  obtain ⟨e, k7, b7, h7⟩ : ∃ e k7 b7, hexR s k6 b6 12 15 = (e, k7, b7) := ⟨_, _, _, rfl⟩
  obtain ⟨f, k8, b8, h8⟩ : ∃ f k8 b8, hexR s k7 b7 0 15 = (f, k8, b8) := ⟨_, _, _, rfl⟩
  obtain ⟨g, k9, b9, h9⟩ : ∃ g k9 b9, hexR s k8 b8 0 15 = (g, k9, b9) := ⟨_, _, _, rfl⟩
  rcases unit_hi h1 hm h2 h3 h4 with ⟨hb4, hu⟩ | ⟨hb4, hpl, hu⟩
  · have hg4 := hexR_good h4 (by omega)
    have hg3 := hexR_good h3 (by omega)
    have hg2 := hexR_good h2 (by omega)
    have hg1 := hexR_good h1 (by omega)
    have hm2 : (a = 13 ∧ m = 11) ∨ (a ≠ 13 ∧ m = 15) := by split at hm <;> omega
    by_cases hn : a ≠ 13 ∨ b < 8
    · rw [escR_one h1 hm h2 h3 h4 hn, hpR, hu]
      simp only
      rw [if_pos (by right; omega)]
      exact ⟨rfl, fun _ => rfl, .inl hb4⟩
    · rw [escR_two h1 hm h2 h3 h4 (by omega) (by omega) h5 h6 h7 h8 h9, hpR, hu]
      simp only
      rw [if_neg (by omega)]
      have h5' := h5
      rw [hb4] at h5'
      rw [h5']
      simp only
      by_cases hw : 0 ≤ b5
      · rw [if_pos hw]
        rw [hexR_ded s _ 13 13 hw, Prod.mk.injEq, Prod.mk.injEq] at h6
        obtain ⟨rfl, rfl, rfl⟩ := h6
        rw [hexR_ded s _ 12 15 hw, Prod.mk.injEq, Prod.mk.injEq] at h7
        obtain ⟨rfl, rfl, rfl⟩ := h7
        rw [hexR_ded s _ 0 15 hw, Prod.mk.injEq, Prod.mk.injEq] at h8
        obtain ⟨rfl, rfl, rfl⟩ := h8
        rw [hexR_ded s _ 0 15 hw, Prod.mk.injEq, Prod.mk.injEq] at h9
        obtain ⟨rfl, rfl, rfl⟩ := h9
        have hpl := @wordR_place s [92, 117] k4
        rw [h5'] at hpl
        exact ⟨rfl, fun h => by omega, hpl⟩
      · rw [if_neg hw]
        have h5m : b5 = -1 := by
          have := @wordR_place s [92, 117] k4
          rw [h5'] at this; simp only at this; omega
        rw [h5m] at h6
        rcases unit_lo h6 h7 h8 h9 with ⟨hb9, hv⟩ | ⟨hb9, hpl9, hv⟩
        · rw [hv]; exact ⟨rfl, fun _ => by simp only; omega, .inl hb9⟩
        · rw [hv]; exact ⟨rfl, fun h => by omega, .inr hpl9.symm⟩
  · rw [hpR, hu]
    simp only
    rw [if_pos (.inl hb4)]
    by_cases hn : a ≠ 13 ∨ b < 8
    · rw [escR_one h1 hm h2 h3 h4 hn]
      exact ⟨rfl, fun h => by simp only at h; omega, .inr hpl.symm⟩
    · rw [escR_two h1 hm h2 h3 h4 (by omega) (by omega) h5 h6 h7 h8 h9]
      rw [wordR_ded s _ _ _ hb4, Prod.mk.injEq] at h5
      obtain ⟨rfl, rfl⟩ := h5
      rw [hexR_ded s _ 13 13 hb4, Prod.mk.injEq, Prod.mk.injEq] at h6
      obtain ⟨rfl, rfl, rfl⟩ := h6
      rw [hexR_ded s _ 12 15 hb4, Prod.mk.injEq, Prod.mk.injEq] at h7
      obtain ⟨rfl, rfl, rfl⟩ := h7
      rw [hexR_ded s _ 0 15 hb4, Prod.mk.injEq, Prod.mk.injEq] at h8
      obtain ⟨rfl, rfl, rfl⟩ := h8
      rw [hexR_ded s _ 0 15 hb4, Prod.mk.injEq, Prod.mk.injEq] at h9
      obtain ⟨rfl, rfl, rfl⟩ := h9
      exact ⟨rfl, fun h => by simp only at h; omega, .inr hpl.symm⟩

end Go.Proofs.YtjaoocincdoaaaaGreatDoor

namespace Go.Proofs.YtjaoocincdoaaaaGreatDoor
open Go.RowKit J

set_option linter.unusedVariables false

theorem fromR_cases (s : ByteArray) (k : Nat) (lo hi : Int) : ((lo ≤ gb s k ∧ gb s k ≤ hi) ∧ fromR s k (-1) lo hi = (gb s k, k + 1, -1)) ∨ (¬ (lo ≤ gb s k ∧ gb s k ≤ hi) ∧ fromR s k (-1) lo hi = (0, k, (k : Int))) := by
  by_cases h : lo ≤ gb s k ∧ gb s k ≤ hi
  · left; refine ⟨h, ?_⟩; rw [fromR, cv_good, if_pos h]
  · right; refine ⟨h, ?_⟩; rw [fromR, cv_good, if_neg h, failed_good]
theorem fromR_ded (s : ByteArray) (k : Nat) {bad : Int} (lo hi : Int) (hl : 0 ≤ lo) (h : 0 ≤ bad) : fromR s k bad lo hi = (0, k, bad) := by
  rw [fromR, cv_dead s k h, if_neg (by omega), failed_dead k h]
theorem pk_in {s : ByteArray} {k : Nat} {lo hi : Int} (hl : 0 < lo) : (lo ≤ pk s k ∧ pk s k ≤ hi) ↔ (lo ≤ gb s k ∧ gb s k ≤ hi) := by
  rcases pk_eq (s := s) (k := k) with ⟨h, _⟩ | ⟨h1, h2⟩
  · rw [h]
  · rw [h1, h2]; omega
theorem contF_s (s : ByteArray) (n : Nat) {lo : Int} (hi : Int) (k : Nat) (hl : 0 < lo) : contF s (n + 1) lo hi k = if lo ≤ gb s k ∧ gb s k ≤ hi then contF s n 128 191 (k + 1) else (k, (k : Int)) := by
  rw [contF]; simp only [pk_in hl]
theorem contF_0 (s : ByteArray) (lo hi : Int) (k : Nat) : contF s 0 lo hi k = (k, -1) := rfl

theorem gb_pk {s : ByteArray} {k : Nat} (h : 0 ≤ gb s k) : pk s k = gb s k := by
  rcases pk_eq (s := s) (k := k) with ⟨h, _⟩ | ⟨h1, h2⟩ <;> omega

/-- One, two, three bytes more. -/
theorem cont_one {s : ByteArray} {k : Nat} {lo hi : Int} (hl : 0 < lo) {a : Int} {k1 : Nat} {b1 : Int} (h : fromR s k (-1) lo hi = (a, k1, b1)) : contF s 1 lo hi k = (k1, b1) := by
  rw [show contF s 1 lo hi k = _ from contF_s s 0 hi k hl]
  rcases fromR_cases s k lo hi with ⟨g, e⟩ | ⟨g, e⟩
  · rw [e, Prod.mk.injEq, Prod.mk.injEq] at h; obtain ⟨_, rfl, rfl⟩ := h; rw [if_pos g, contF_0]
  · rw [e, Prod.mk.injEq, Prod.mk.injEq] at h; obtain ⟨_, rfl, rfl⟩ := h; rw [if_neg g]
theorem cont_two {s : ByteArray} {k : Nat} {lo hi : Int} (hl : 0 < lo) {a : Int} {k1 : Nat} {b1 : Int} {a2 : Int} {k2 : Nat} {b2 : Int} (h : fromR s k (-1) lo hi = (a, k1, b1)) (h2 : fromR s k1 b1 128 191 = (a2, k2, b2)) : contF s 2 lo hi k = (k2, b2) := by
  rw [show contF s 2 lo hi k = _ from contF_s s 1 hi k hl]
  rcases fromR_cases s k lo hi with ⟨g, e⟩ | ⟨g, e⟩
  · rw [e, Prod.mk.injEq, Prod.mk.injEq] at h; obtain ⟨_, rfl, rfl⟩ := h; rw [if_pos g]; exact cont_one (by omega) h2
  · rw [e, Prod.mk.injEq, Prod.mk.injEq] at h; obtain ⟨_, rfl, rfl⟩ := h; rw [if_neg g]
    rw [fromR_ded s _ 128 191 (by omega) (by omega), Prod.mk.injEq, Prod.mk.injEq] at h2; obtain ⟨_, rfl, rfl⟩ := h2; rfl
theorem cont_three {s : ByteArray} {k : Nat} {lo hi : Int} (hl : 0 < lo) {a : Int} {k1 : Nat} {b1 : Int} {a2 : Int} {k2 : Nat} {b2 : Int} {a3 : Int} {k3 : Nat} {b3 : Int} (h : fromR s k (-1) lo hi = (a, k1, b1)) (h2 : fromR s k1 b1 128 191 = (a2, k2, b2)) (h3 : fromR s k2 b2 128 191 = (a3, k3, b3)) : contF s 3 lo hi k = (k3, b3) := by
  rw [show contF s 3 lo hi k = _ from contF_s s 2 hi k hl]
  rcases fromR_cases s k lo hi with ⟨g, e⟩ | ⟨g, e⟩
  · rw [e, Prod.mk.injEq, Prod.mk.injEq] at h; obtain ⟨_, rfl, rfl⟩ := h; rw [if_pos g]; exact cont_two (by omega) h2 h3
  · rw [e, Prod.mk.injEq, Prod.mk.injEq] at h; obtain ⟨_, rfl, rfl⟩ := h; rw [if_neg g]
    rw [fromR_ded s _ 128 191 (by omega) (by omega), Prod.mk.injEq, Prod.mk.injEq] at h2; obtain ⟨_, rfl, rfl⟩ := h2
    rw [fromR_ded s _ 128 191 (by omega) (by omega), Prod.mk.injEq, Prod.mk.injEq] at h3; obtain ⟨_, rfl, rfl⟩ := h3; rfl

theorem plain_many {s : ByteArray} {k : Nat} (h : 127 < gb s k) : plainR s k = manyR s k (-1) := by
  have hb := gb_bd s k
  rw [plainR, gb_pk (by omega)]
  obtain ⟨c, hc⟩ : ∃ c, gb s k = c := ⟨_, rfl⟩
  have h1g : ∀ c, gb s k = c → 194 ≤ c → c ≤ 244 → fromR s k (-1) 194 244 = (c, k + 1, -1) := fun c e h1 h2 => by rw [fromR, cv_good, e, if_pos ⟨h1, h2⟩]
  have h1b : ∀ c, gb s k = c → ¬ (194 ≤ c ∧ c ≤ 244) → manyR s k (-1) = (k, (k : Int)) := fun c e h1 => by
    have e1 : fromR s k (-1) 194 244 = (0, k, (k : Int)) := by rw [fromR, cv_good, e, if_neg h1, failed_good]
    exact manyR_two e1 (by omega) (fromR_ded s k 128 191 (by omega) (by omega))
  rw [hc] at h hb ⊢
  rcases seq_cases (c := c) with ⟨g, e⟩ | ⟨g, g', e⟩ | ⟨g, g', e⟩ | ⟨g, e⟩ | ⟨g, e⟩ | ⟨g, g', g3, e⟩ | ⟨g, e⟩ | ⟨g, g', e⟩ | ⟨g, e⟩ | ⟨g, e⟩
  · omega
  · rw [e, if_pos rfl, h1b c hc (by omega)]
  · rw [e, if_neg (by simp)]
    exact (cont_one (by decide) rfl).trans (manyR_two (h1g c hc (by omega) (by omega)) (by omega) rfl).symm
  · rw [e, if_neg (by simp)]
    exact (cont_two (by decide) rfl rfl).trans (manyR_three (h1g c hc (by omega) (by omega)) (by omega) (by omega) (by rw [if_neg (by omega), if_pos (by omega)]) (by rw [if_neg (by omega), if_neg (by omega)]) rfl rfl).symm
  · rw [e, if_neg (by simp)]
    exact (cont_two (by decide) rfl rfl).trans (manyR_three (h1g c hc (by omega) (by omega)) (by omega) (by omega) (by rw [if_neg (by omega), if_neg (by omega)]) (by rw [if_neg (by omega), if_pos (by omega)]) rfl rfl).symm
  · rw [e, if_neg (by simp)]
    exact (cont_two (by decide) rfl rfl).trans (manyR_three (h1g c hc (by omega) (by omega)) (by omega) (by omega) (by rw [if_neg (by omega), if_neg (by omega)]) (by rw [if_neg (by omega), if_neg (by omega)]) rfl rfl).symm
  · rw [e, if_neg (by simp)]
    exact (cont_three (by decide) rfl rfl rfl).trans (manyR_four (h1g c hc (by omega) (by omega)) (by omega) (by rw [if_pos (by omega)]) (by rw [if_neg (by omega), if_neg (by omega)]) rfl rfl rfl).symm
  · rw [e, if_neg (by simp)]
    exact (cont_three (by decide) rfl rfl rfl).trans (manyR_four (h1g c hc (by omega) (by omega)) (by omega) (by rw [if_neg (by omega), if_neg (by omega)]) (by rw [if_neg (by omega), if_neg (by omega)]) rfl rfl rfl).symm
  · rw [e, if_neg (by simp)]
    exact (cont_three (by decide) rfl rfl rfl).trans (manyR_four (h1g c hc (by omega) (by omega)) (by omega) (by rw [if_neg (by omega), if_neg (by omega)]) (by rw [if_pos (by omega)]) rfl rfl rfl).symm
  · rw [e, if_pos rfl, h1b c hc (by omega)]

theorem plain_one {s : ByteArray} {k : Nat} (h0 : 0 ≤ gb s k) (h : gb s k ≤ 127) : plainR s k = (k + 1, -1) := by
  have e : seqR (gb s k) = (1, 0, 0) := by rw [seqR, if_pos (by omega)]
  rw [plainR, gb_pk h0, e]; rfl

/-- Where 'contF' goes through, which bytes there were. -/
theorem contF_good {s : ByteArray} : ∀ {n : Nat} {lo hi : Int} {k : Nat}, 0 < lo → (contF s n lo hi k).2 < 0 → (contF s n lo hi k) = (k + n, -1) ∧ (1 ≤ n → lo ≤ gb s k ∧ gb s k ≤ hi) ∧ ∀ i, 1 ≤ i → i < n → 128 ≤ gb s (k + i) ∧ gb s (k + i) ≤ 191
  | 0, lo, hi, k, _, _ => ⟨rfl, fun h => by omega, fun i h1 h2 => by omega⟩
  | n + 1, lo, hi, k, hl, h => by
    rw [contF_s s n hi k hl] at h ⊢
    split at h
    · rename_i g
      rw [if_pos g]
      obtain ⟨h1, h2, h3⟩ := contF_good (by omega) h
      refine ⟨by rw [h1]; congr 1; omega, fun _ => g, fun i hi1 hi2 => ?_⟩
      rcases (show i = 1 ∨ 2 ≤ i from by omega) with rfl | hi3
      · exact h2 (by omega)
      · have := h3 (i - 1) (by omega) (by omega)
        rwa [show k + 1 + (i - 1) = k + i by omega] at this
    · simp only at h; omega

end Go.Proofs.YtjaoocincdoaaaaGreatDoor
