/- What was decoded is encoded back. The program's reader: escaped code points, walked. The program's reader: one code point of a string. The program's reader: a string. The program's reader: what an exponent says. -/
import Derived.Test.YtjaoocincdoaaaaGreatDoorA10
namespace Go.Proofs.YtjaoocincdoaaaaGreatDoor
open Go.RowKit J

set_option linter.unusedVariables false

theorem bv_1 (t : ByteArray) (h : t.size = 1) : bv t.data.toList = [.int .u8 ((t.get! 0).toNat : Int)] := by
  obtain ⟨⟨l⟩⟩ := t
  match l, h with
  | [a], _ => rfl
theorem bv_2 (t : ByteArray) (h : t.size = 2) : bv t.data.toList = [.int .u8 ((t.get! 0).toNat : Int), .int .u8 ((t.get! 1).toNat : Int)] := by
  obtain ⟨⟨l⟩⟩ := t
  match l, h with
  | [a, b], _ => rfl
theorem bv_3 (t : ByteArray) (h : t.size = 3) : bv t.data.toList = [.int .u8 ((t.get! 0).toNat : Int), .int .u8 ((t.get! 1).toNat : Int), .int .u8 ((t.get! 2).toNat : Int)] := by
  obtain ⟨⟨l⟩⟩ := t
  match l, h with
  | [a, b, c], _ => rfl
theorem bv_4 (t : ByteArray) (h : t.size = 4) : bv t.data.toList = [.int .u8 ((t.get! 0).toNat : Int), .int .u8 ((t.get! 1).toNat : Int), .int .u8 ((t.get! 2).toNat : Int), .int .u8 ((t.get! 3).toNat : Int)] := by
  obtain ⟨⟨l⟩⟩ := t
  match l, h with
  | [a, b, c, d], _ => rfl

theorem ext_gb {s : ByteArray} {k n i : Nat} (h : k + n ≤ s.size) (hi : i < n) : (((s.extract k (k + n)).get! i).toNat : Int) = gb s (k + i) := by
  rw [gb_lt (show k + i < s.size by omega)]
  have h1 : i < (s.extract k (k + n)).size := by rw [ByteArray.size_extract]; omega
  have : (s.extract k (k + n)).get! i = (s.extract k (k + n))[i]'h1 := by
    simp only [ByteArray.get!, ByteArray.getElem_eq_getElem_data]
    exact getElem!_pos _ _ _
  rw [this, ByteArray.getElem_extract]

theorem enc_1 (t : ByteArray) (h : t.size = 1) (h0 : (t.get! 0).toNat < 128) : Lib.runeCells ((Lib.decodeGo t).1 : Int) = bv t.data.toList := by
  rw [Lib.decodeGo, if_neg (by omega), Lib.decode_at, bv_1 t h]
  generalize (t.get! 0).toNat = a at *
  have e : Lib.decodeN (t.size - 0) a (t.get! (0 + 1)).toNat (t.get! (0 + 2)).toNat (t.get! (0 + 3)).toNat = (a, 1) := by rw [Lib.decodeN, if_pos h0]
  rw [e, Lib.runeCells, Lib.encodeRuneZ_one (by omega) (by simp only; omega)]; rfl

theorem enc_2 (t : ByteArray) (h : t.size = 2) (h0 : 194 ≤ (t.get! 0).toNat ∧ (t.get! 0).toNat < 224) (h1 : 128 ≤ (t.get! 1).toNat ∧ (t.get! 1).toNat ≤ 191) : Lib.runeCells ((Lib.decodeGo t).1 : Int) = bv t.data.toList := by
  rw [Lib.decodeGo, if_neg (by omega), Lib.decode_at, bv_2 t h, h]
  generalize (t.get! 0).toNat = a at *
  generalize (t.get! 1).toNat = b at *
  have e : Lib.decodeN (2 - 0) a b (t.get! (0 + 2)).toNat (t.get! (0 + 3)).toNat = (a % 32 * 64 + b % 64, 2) := by
    rw [Lib.decodeN, if_neg (by omega), if_pos ⟨by omega, by omega, by omega⟩, if_pos (by omega)]
  rw [e, Lib.runeCells, Lib.encodeRuneZ_two (by simp only; omega) (by simp only; omega)]
  simp only [List.map_cons, List.map_nil]
  congr 2
  · omega
  · congr 2; omega

theorem enc_3 (t : ByteArray) (h : t.size = 3) (h0 : 224 ≤ (t.get! 0).toNat ∧ (t.get! 0).toNat < 240) (h1 : 128 ≤ (t.get! 1).toNat ∧ (t.get! 1).toNat ≤ 191) (h2 : 128 ≤ (t.get! 2).toNat ∧ (t.get! 2).toNat ≤ 191)
    (hl : (t.get! 0).toNat = 224 → 160 ≤ (t.get! 1).toNat) (hh : (t.get! 0).toNat = 237 → (t.get! 1).toNat ≤ 159) : Lib.runeCells ((Lib.decodeGo t).1 : Int) = bv t.data.toList := by
  rw [Lib.decodeGo, if_neg (by omega), Lib.decode_at, bv_3 t h, h]
  generalize (t.get! 0).toNat = a at *
  generalize (t.get! 1).toNat = b at *
  generalize (t.get! 2).toNat = c at *
  have e : Lib.decodeN (3 - 0) a b c (t.get! (0 + 3)).toNat = (a % 16 * 4096 + b % 64 * 64 + c % 64, 3) := by
    rw [Lib.decodeN, if_neg (by omega), if_neg (by omega), if_pos ⟨by omega, ⟨by omega, by omega⟩, by omega, by omega⟩, if_pos (by omega)]
  rw [e, Lib.runeCells, Lib.encodeRuneZ_three (by simp only; omega)]
  simp only [List.map_cons, List.map_nil]
  simp only [List.cons.injEq, Value.int.injEq, true_and, and_true]
  exact ⟨by omega, by omega, by omega⟩

theorem enc_4 (t : ByteArray) (h : t.size = 4) (h0 : 240 ≤ (t.get! 0).toNat ∧ (t.get! 0).toNat ≤ 244) (h1 : 128 ≤ (t.get! 1).toNat ∧ (t.get! 1).toNat ≤ 191) (h2 : 128 ≤ (t.get! 2).toNat ∧ (t.get! 2).toNat ≤ 191) (h3 : 128 ≤ (t.get! 3).toNat ∧ (t.get! 3).toNat ≤ 191)
    (hl : (t.get! 0).toNat = 240 → 144 ≤ (t.get! 1).toNat) (hh : (t.get! 0).toNat = 244 → (t.get! 1).toNat ≤ 143) : Lib.runeCells ((Lib.decodeGo t).1 : Int) = bv t.data.toList := by
  rw [Lib.decodeGo, if_neg (by omega), Lib.decode_at, bv_4 t h, h]
  generalize (t.get! 0).toNat = a at *
  generalize (t.get! 1).toNat = b at *
  generalize (t.get! 2).toNat = c at *
  generalize (t.get! 3).toNat = d at *
  have e : Lib.decodeN (4 - 0) a b c d = (a % 8 * 262144 + b % 64 * 4096 + c % 64 * 64 + d % 64, 4) := by
    rw [Lib.decodeN, if_neg (by omega), if_neg (by omega), if_neg (by omega), if_pos ⟨by omega, ⟨by omega, by omega⟩, ⟨by omega, by omega⟩, by omega, by omega⟩, if_pos (by omega)]
  rw [e, Lib.runeCells, Lib.encodeRuneZ_four (by simp only; omega) (by simp only; omega)]
  simp only [List.map_cons, List.map_nil]
  simp only [List.cons.injEq, Value.int.injEq, true_and, and_true]
  exact ⟨by omega, by omega, by omega, by omega⟩

/-- Where 'plain' goes through: the place behind, and the code point is those bytes. -/
theorem plain_good {s : ByteArray} {k : Nat} (hg : 0 ≤ gb s k) (h : (plainR s k).2 < 0) : ∃ n, 1 ≤ n ∧ n ≤ 4 ∧ plainR s k = (k + n, -1) ∧ k + n ≤ s.size ∧ Lib.runeCells ((Lib.decodeGo (s.extract k (k + n))).1 : Int) = bv (s.extract k (k + n)).data.toList := by
  have hks := lt_of_gb hg
  have hb := gb_bd s k
  rcases Int.lt_or_le 127 (gb s k) with hgt | hle
  · obtain ⟨c, hc⟩ : ∃ c, gb s k = c := ⟨_, rfl⟩
    have hpl : plainR s k = if (seqR c).1 = 0 then (k, (k : Int)) else contF s ((seqR c).1 - 1).toNat (seqR c).2.1 (seqR c).2.2 (k + 1) := by rw [plainR, gb_pk hg, hc]
    rw [hpl] at h ⊢
    rw [hc] at hgt hb
    have fin : ∀ n lo hi, 0 < lo → 1 ≤ n → (contF s n lo hi (k + 1)).2 < 0 → contF s n lo hi (k + 1) = (k + (n + 1), -1) ∧ (lo ≤ gb s (k + 1) ∧ gb s (k + 1) ≤ hi) ∧ (∀ i, 1 ≤ i → i < n → 128 ≤ gb s (k + 1 + i) ∧ gb s (k + 1 + i) ≤ 191) ∧ k + (n + 1) ≤ s.size := by
      intro n lo hi hl hn hh
      obtain ⟨g1, g2, g3⟩ := contF_good hl hh
      refine ⟨by rw [g1]; congr 1; omega, g2 hn, g3, ?_⟩
      rcases (show n = 1 ∨ 2 ≤ n from by omega) with rfl | h2
      · have := lt_of_gb (s := s) (k := k + 1) (by have := g2 hn; omega); omega
      · have := lt_of_gb (s := s) (k := k + 1 + (n - 1)) (by have := g3 (n - 1) (by omega) (by omega); omega); omega
    have b0 : ∀ n, k + (n + 1) ≤ s.size → (((s.extract k (k + (n + 1))).get! 0).toNat : Int) = c := fun n hn => by rw [ext_gb hn (by omega)]; exact hc
    have b1 : ∀ n, k + (n + 1) ≤ s.size → 1 ≤ n → (((s.extract k (k + (n + 1))).get! 1).toNat : Int) = gb s (k + 1) := fun n hn h1 => ext_gb hn (by omega)
    have b2 : ∀ n, k + (n + 1) ≤ s.size → 2 ≤ n → (((s.extract k (k + (n + 1))).get! 2).toNat : Int) = gb s (k + 1 + 1) := fun n hn h1 => by rw [ext_gb hn (by omega)]
    have b3 : ∀ n, k + (n + 1) ≤ s.size → 3 ≤ n → (((s.extract k (k + (n + 1))).get! 3).toNat : Int) = gb s (k + 1 + 2) := fun n hn h1 => by rw [ext_gb hn (by omega)]
    have sz : ∀ n, k + (n + 1) ≤ s.size → (s.extract k (k + (n + 1))).size = n + 1 := fun n hn => by rw [ByteArray.size_extract]; omega
    rcases seq_cases (c := c) with ⟨g, e⟩ | ⟨g, g', e⟩ | ⟨g, g', e⟩ | ⟨g, e⟩ | ⟨g, e⟩ | ⟨g, g', g3, e⟩ | ⟨g, e⟩ | ⟨g, g', e⟩ | ⟨g, e⟩ | ⟨g, e⟩
    all_goals rw [e] at h ⊢
    · omega
    · rw [if_pos rfl] at h; simp only at h; omega
    · rw [if_neg (by simp)] at h ⊢
      obtain ⟨f1, f2, f3, f4⟩ := fin 1 128 191 (by omega) (by omega) h
      refine ⟨1 + 1, by omega, by omega, f1, f4, enc_2 _ (sz 1 f4) ?_ ?_⟩
      · have := b0 1 f4; omega
      · have := b1 1 f4 (by omega); omega
    · rw [if_neg (by simp)] at h ⊢
      obtain ⟨f1, f2, f3, f4⟩ := fin 2 160 191 (by omega) (by omega) h
      have q0 := b0 2 f4; have q1 := b1 2 f4 (by omega); have q2 := b2 2 f4 (by omega); have r1 := f3 1 (by omega) (by omega)
      exact ⟨2 + 1, by omega, by omega, f1, f4, enc_3 _ (sz 2 f4) (by omega) (by omega) (by omega) (by omega) (by omega)⟩
    · rw [if_neg (by simp)] at h ⊢
      obtain ⟨f1, f2, f3, f4⟩ := fin 2 128 159 (by omega) (by omega) h
      have q0 := b0 2 f4; have q1 := b1 2 f4 (by omega); have q2 := b2 2 f4 (by omega); have r1 := f3 1 (by omega) (by omega)
      exact ⟨2 + 1, by omega, by omega, f1, f4, enc_3 _ (sz 2 f4) (by omega) (by omega) (by omega) (by omega) (by omega)⟩
    · rw [if_neg (by simp)] at h ⊢
      obtain ⟨f1, f2, f3, f4⟩ := fin 2 128 191 (by omega) (by omega) h
      have q0 := b0 2 f4; have q1 := b1 2 f4 (by omega); have q2 := b2 2 f4 (by omega); have r1 := f3 1 (by omega) (by omega)
      exact ⟨2 + 1, by omega, by omega, f1, f4, enc_3 _ (sz 2 f4) (by omega) (by omega) (by omega) (by omega) (by omega)⟩
    · rw [if_neg (by simp)] at h ⊢
      obtain ⟨f1, f2, f3, f4⟩ := fin 3 144 191 (by omega) (by omega) h
      have q0 := b0 3 f4; have q1 := b1 3 f4 (by omega); have q2 := b2 3 f4 (by omega); have q3 := b3 3 f4 (by omega); have r1 := f3 1 (by omega) (by omega); have r2 := f3 2 (by omega) (by omega)
      exact ⟨3 + 1, by omega, by omega, f1, f4, enc_4 _ (sz 3 f4) (by omega) (by omega) (by omega) (by omega) (by omega) (by omega)⟩
    · rw [if_neg (by simp)] at h ⊢
      obtain ⟨f1, f2, f3, f4⟩ := fin 3 128 191 (by omega) (by omega) h
      have q0 := b0 3 f4; have q1 := b1 3 f4 (by omega); have q2 := b2 3 f4 (by omega); have q3 := b3 3 f4 (by omega); have r1 := f3 1 (by omega) (by omega); have r2 := f3 2 (by omega) (by omega)
      exact ⟨3 + 1, by omega, by omega, f1, f4, enc_4 _ (sz 3 f4) (by omega) (by omega) (by omega) (by omega) (by omega) (by omega)⟩
    · rw [if_neg (by simp)] at h ⊢
      obtain ⟨f1, f2, f3, f4⟩ := fin 3 128 143 (by omega) (by omega) h
      have q0 := b0 3 f4; have q1 := b1 3 f4 (by omega); have q2 := b2 3 f4 (by omega); have q3 := b3 3 f4 (by omega); have r1 := f3 1 (by omega) (by omega); have r2 := f3 2 (by omega) (by omega)
      exact ⟨3 + 1, by omega, by omega, f1, f4, enc_4 _ (sz 3 f4) (by omega) (by omega) (by omega) (by omega) (by omega) (by omega)⟩
    · rw [if_pos rfl] at h; simp only at h; omega
  · refine ⟨1, by omega, by omega, plain_one hg hle, by omega, enc_1 _ (by rw [ByteArray.size_extract]; omega) ?_⟩
    have := ext_gb (s := s) (k := k) (n := 1) (i := 0) (by omega) (by omega)
    simp only [Nat.add_zero] at this; omega

end Go.Proofs.YtjaoocincdoaaaaGreatDoor

namespace Go.Proofs.YtjaoocincdoaaaaGreatDoor
open Go.RowKit J

set_option linter.unusedVariables false

theorem unitF_bd (s : ByteArray) (k : Nat) (low : Bool) : ((unitF s low 4 0 k).2.2 = -1 ∧ 0 ≤ (unitF s low 4 0 k).1 ∧ (unitF s low 4 0 k).1 ≤ 65535 ∧ (unitF s low 4 0 k).2.1 ≤ s.size) ∨ (0 ≤ (unitF s low 4 0 k).2.2 ∧ (unitF s low 4 0 k).1 = 0) := by
  cases low
  · obtain ⟨a, k1, b1, h1⟩ : ∃ a k1 b1, hexR s k (-1) 0 15 = (a, k1, b1) := ⟨_, _, _, rfl⟩
    obtain ⟨m, hm⟩ : ∃ m : Int, m = if a = 13 then 11 else 15 := ⟨_, rfl⟩
    obtain ⟨b, k2, b2, h2⟩ : ∃ b k2 b2, hexR s k1 b1 0 m = (b, k2, b2) := ⟨_, _, _, rfl⟩
    obtain ⟨c, k3, b3, h3⟩ : ∃ c k3 b3, hexR s k2 b2 0 15 = (c, k3, b3) := ⟨_, _, _, rfl⟩
    obtain ⟨d, k4, b4, h4⟩ : ∃ d k4 b4, hexR s k3 b3 0 15 = (d, k4, b4) := ⟨_, _, _, rfl⟩
    rcases unit_hi h1 hm h2 h3 h4 with ⟨hb4, hu⟩ | ⟨hb4, hpl, hu⟩
    · have hg4 := hexR_good h4 (by omega)
      have hg3 := hexR_good h3 (by omega)
      have hg2 := hexR_good h2 (by omega)
      have hg1 := hexR_good h1 (by omega)
      have hm2 : m ≤ 15 := by split at hm <;> omega
      left; rw [hu]; exact ⟨hb4, by simp only; omega, by simp only; omega, by simp only; omega⟩
    · right; rw [hu]; exact ⟨hb4, rfl⟩
  · obtain ⟨a, k1, b1, h1⟩ : ∃ a k1 b1, hexR s k (-1) 13 13 = (a, k1, b1) := ⟨_, _, _, rfl⟩
    obtain ⟨b, k2, b2, h2⟩ : ∃ b k2 b2, hexR s k1 b1 12 15 = (b, k2, b2) := ⟨_, _, _, rfl⟩
    obtain ⟨c, k3, b3, h3⟩ : ∃ c k3 b3, hexR s k2 b2 0 15 = (c, k3, b3) := ⟨_, _, _, rfl⟩
    obtain ⟨d, k4, b4, h4⟩ : ∃ d k4 b4, hexR s k3 b3 0 15 = (d, k4, b4) := ⟨_, _, _, rfl⟩
    rcases unit_lo h1 h2 h3 h4 with ⟨hb4, hu⟩ | ⟨hb4, hpl, hu⟩
    · have hg4 := hexR_good h4 (by omega)
      have hg3 := hexR_good h3 (by omega)
      have hg2 := hexR_good h2 (by omega)
      have hg1 := hexR_good h1 (by omega)
      left; rw [hu]; exact ⟨hb4, by simp only; omega, by simp only; omega, by simp only; omega⟩
    · right; rw [hu]; exact ⟨hb4, rfl⟩

theorem wordR_le {s : ByteArray} : ∀ {l : List UInt8} {k : Nat}, k ≤ s.size → (wordR s k (-1) l).1 ≤ s.size
  | [], k, h => h
  | c :: l, k, h => by
    rw [wordR]; split
    · rename_i hc
      exact wordR_le (cv_lt (s := s) (k := k) (bad := -1) (by omega)).1
    · exact h

def esc2 : ByteArray := ⟨#[92, 117]⟩

set_option maxHeartbeats 2000000 in
theorem hexPoint_any (b : Nat) (s : ByteArray) (k : Nat) (op : Int) (lg : Bool) (w : World) {J : Addr} (hp : PS w b s k op lg J) (hk : k ≤ s.size) (hs : s.size ≤ 1000) :
    Calls Tryz.prog 89 #[.pointer (some ⟨b, 0, none⟩)] w fun e w' => ∃ X, e = .returned (.tuple #[.int .i32 X, werr J (hpR s k).2]) ∧ Hid ((hpR s k).2.2 < 0 → X = (hpR s k).1) ∧ But b w w' ∧ PS w' b s (hpR s k).2.1 op lg J := by
  have HP : Hid (PS w b s k op lg J) := hp
  have hub := unitF_bd s k false
  obtain ⟨u, ku, bu, hU⟩ : ∃ u ku bu, unitF s false 4 0 k = (u, ku, bu) := ⟨_, _, _, rfl⟩
  have HU : Hid (unitF s false 4 0 k = (u, ku, bu)) := hU
  obtain ⟨R, hR⟩ : ∃ R, R = hpR s k := ⟨_, rfl⟩
  have HR : Hid (R = hpR s k) := hR
  rw [← hR]
  rw [hU] at hub
  simp only at hub
  clear hp hU hR
  rcases hub with ⟨hbu, hu0, hu1, hku⟩ | ⟨hbu, rfl⟩
  · subst hbu
    by_cases h54 : u / 1024 = 54
    · have hlo : 55296 ≤ u := by omega
      have hhi : u ≤ 56319 := by omega
      have h54b : (u / 1024 != 54) = false := by rw [bne_eq_false_iff_eq]; exact h54
      have hwp := @wordR_place s [92, 117] ku
      have hwl := @wordR_le s [92, 117] ku hku
      obtain ⟨kw, bw, hW⟩ : ∃ kw bw, wordR s ku (-1) [92, 117] = (kw, bw) := ⟨_, _, rfl⟩
      have HW : Hid (wordR s ku (-1) [92, 117] = (kw, bw)) := hW
      rw [hW] at hwp hwl
      simp only at hwp hwl
      clear hW
      by_cases hbw : 0 ≤ bw
      · have HF : Hid (R = (0, kw, bw)) := by
          show _ = _
          rw [HR.out, hpR, HU.out]; simp only
          rw [if_neg (by omega), HW.out]; simp only
          rw [if_pos hbw]
        have hbe : bw = (kw : Int) := by omega
        go_enter Tryz.func89, Tryz.ntmps89
        go_wp2_with fail
        refine (unit_any b s k op lg false _ HP.out hk hs).mono ?_
        rintro e w1 ⟨rfl, hb1, hp1⟩
        rw [HU.out] at hp1
        rw [HU.out, unitV, if_pos (by simp)]
        go_wp2_with fail
        refine (pword_any b s ⟨#[92, 117]⟩ ku op lg _ hp1 hku hs (by decide) (by decide)).mono ?_
        rintro e w2 ⟨rfl, hb2, hp2⟩
        rw [show (ByteArray.mk #[92, 117]).data.toList = [92, 117] from rfl, HW.out] at hp2
        rw [show (ByteArray.mk #[92, 117]).data.toList = [92, 117] from rfl, HW.out, werr, if_neg (by simp only; omega), errV]
        go_wp2_with fail
        go_ret2
        refine ⟨0, ?_, by rw [HF.out]; exact fun h => absurd h (by simp only; omega), hb1.trans hb2, by rw [HF.out]; exact hp2⟩
        rw [HF.out, werr, if_neg (by simp only; omega)]; rfl
      · have hbw1 : bw = -1 := by omega
        subst hbw1
        have hvb := unitF_bd s kw true
        obtain ⟨v, kv', bv', hV⟩ : ∃ v kv' bv', unitF s true 4 0 kw = (v, kv', bv') := ⟨_, _, _, rfl⟩
        have HV : Hid (unitF s true 4 0 kw = (v, kv', bv')) := hV
        rw [hV] at hvb
        simp only at hvb
        clear hV
        have HF : Hid (R = (65536 + (u - 55296) * 1024 + (v - 56320), kv', bv')) := by
          show _ = _
          rw [HR.out, hpR, HU.out]; simp only
          rw [if_neg (by omega), HW.out]; simp only
          rw [if_neg (by omega), HV.out]
        have hv0 : 0 ≤ v := by omega
        have hv1 : v ≤ 65535 := by omega
        have HVB : Hid (bv' = -1 ∨ (0 ≤ bv' ∧ v = 0)) := by show bv' = -1 ∨ (0 ≤ bv' ∧ v = 0); omega
        clear hvb
        go_enter Tryz.func89, Tryz.ntmps89
        go_wp2_with fail
        refine (unit_any b s k op lg false _ HP.out hk hs).mono ?_
        rintro e w1 ⟨rfl, hb1, hp1⟩
        rw [HU.out] at hp1
        rw [HU.out, unitV, if_pos (by simp)]
        go_wp2_with fail
        refine (pword_any b s ⟨#[92, 117]⟩ ku op lg _ hp1 hku hs (by decide) (by decide)).mono ?_
        rintro e w2 ⟨rfl, hb2, hp2⟩
        rw [show (ByteArray.mk #[92, 117]).data.toList = [92, 117] from rfl, HW.out] at hp2
        rw [show (ByteArray.mk #[92, 117]).data.toList = [92, 117] from rfl, HW.out, werr, if_pos (by simp only; omega)]
        go_wp2_with fail
        refine (unit_any b s kw op lg true _ hp2 hwl hs).mono ?_
        rintro e w3 ⟨rfl, hb3, hp3⟩
        rw [HV.out] at hp3
        have hun : unitV J (unitF s true 4 0 kw) = .tuple #[.int .i32 v, werr J (kv', bv')] := by
          rw [HV.out, unitV, werr]
          rcases HVB.out with h | ⟨h, h'⟩
          · rw [if_pos (by simp only; omega), if_pos (by simp only; omega)]
          · rw [if_neg (by simp only; omega), if_neg (by simp only; omega), h']
        rw [hun]
        clear hun
        go_wp2_with fail
        go_ret2
        exact ⟨65536 + (u - 55296) * 1024 + (v - 56320), by rw [HF.out]; rfl, by rw [HF.out]; exact fun _ => rfl, (hb1.trans hb2).trans hb3, by rw [HF.out]; exact hp3⟩
    · have h54b : (u / 1024 != 54) = true := by rw [bne_iff_ne]; exact h54
      have HF : Hid (R = (u, ku, -1)) := by
        show _ = _
        rw [HR.out, hpR, HU.out]; simp only
        rw [if_pos (.inr h54)]
      go_enter Tryz.func89, Tryz.ntmps89
      go_wp2_with fail
      refine (unit_any b s k op lg false _ HP.out hk hs).mono ?_
      rintro e w1 ⟨rfl, hb1, hp1⟩
      rw [HU.out] at hp1
      rw [HU.out, unitV, if_pos (by simp)]
      go_wp2_with fail
      go_ret2
      exact ⟨u, by rw [HF.out]; rfl, by rw [HF.out]; exact fun _ => rfl, hb1, by rw [HF.out]; exact hp1⟩
  · have HF : Hid (R = (0, ku, bu)) := by
      show _ = _
      rw [HR.out, hpR, HU.out]; simp only
      rw [if_pos (.inl hbu)]
    go_enter Tryz.func89, Tryz.ntmps89
    go_wp2_with fail
    refine (unit_any b s k op lg false _ HP.out hk hs).mono ?_
    rintro e w1 ⟨rfl, hb1, hp1⟩
    rw [HU.out] at hp1
    rw [HU.out, unitV, if_neg (by simp only; omega), errV]
    go_wp2_with fail
    go_ret2
    exact ⟨0, by rw [HF.out, werr, if_neg (by simp only; omega)]; rfl, by rw [HF.out]; exact fun h => absurd h (by simp only; omega), hb1, by rw [HF.out]; exact hp1⟩

def shL : List UInt8 := [34, 92, 47, 98, 102, 110, 114, 116]
set_option maxRecDepth 100000 in
theorem sh_idx_fin : ∀ c : Fin 256, shortE (c.val : Int) < 0 → Lib.indexByte shL ((c.val : Int).toNat.toUInt8) = -1 := by decide
theorem shortE_pk (s : ByteArray) (k : Nat) : shortE (pk s k) = shortE (gb s k) := by
  rcases pk_eq (s := s) (k := k) with ⟨h, _⟩ | ⟨h1, h2⟩
  · rw [h]
  · rw [h1, h2]; rfl
theorem sh_cases (c : Int) : (c = 34 ∨ c = 92 ∨ c = 47 ∨ c = 98 ∨ c = 102 ∨ c = 110 ∨ c = 114 ∨ c = 116) ∨ shortE c = -1 := by
  unfold shortE; repeat' split
  all_goals first | (left; omega) | (right; rfl)

/-- What 'escape' and 'point' hand back. -/
def PtIs (J : Addr) (r : List UInt8 × Nat × Int) (e : Ending) : Prop := ∃ X, e = .returned (.tuple #[.int .i32 X, werr J r.2]) ∧ (r.2.2 < 0 → Lib.runeCells X = bv r.1 ∧ -2147483648 ≤ X ∧ X ≤ 2147483647)

theorem runeCells_enc {n : Int} (h0 : 0 ≤ n) (h1 : n < 1114112) (h2 : n < 55296 ∨ 57343 < n) : Lib.runeCells n = bv (encB n) := by
  rcases (show n ≤ 127 ∨ (128 ≤ n ∧ n ≤ 2047) ∨ (2048 ≤ n ∧ n ≤ 65535) ∨ 65536 ≤ n from by omega) with h | h | h | h
  · rw [Lib.runeCells, Lib.encodeRuneZ_one h0 h, encB, encI, if_pos (by omega)]
    simp only [bv, List.map_cons, List.map_nil]; rw [u8_of (by omega) (by omega)]
  · rw [Lib.runeCells, Lib.encodeRuneZ_two h.1 h.2, encB, encI, if_neg (by omega), if_pos (by omega)]
    simp only [bv, List.map_cons, List.map_nil]; rw [u8_of (by omega) (by omega), u8_of (by omega) (by omega)]
  · rw [Lib.runeCells, Lib.encodeRuneZ_three (by omega), encB, encI, if_neg (by omega), if_neg (by omega), if_pos (by omega)]
    simp only [bv, List.map_cons, List.map_nil]; rw [u8_of (by omega) (by omega), u8_of (by omega) (by omega), u8_of (by omega) (by omega)]
  · rw [Lib.runeCells, Lib.encodeRuneZ_four h (by omega), encB, encI, if_neg (by omega), if_neg (by omega), if_neg (by omega)]
    simp only [bv, List.map_cons, List.map_nil]; rw [u8_of (by omega) (by omega), u8_of (by omega) (by omega), u8_of (by omega) (by omega), u8_of (by omega) (by omega)]

theorem escp_short {s : ByteArray} {k : Nat} {c : Int} (h : gb s k = c) (hc : c ≠ 117) (h0 : 0 ≤ shortE c) : escpR s k = ([UInt8.ofNat (shortE c).toNat], k + 1, -1) := by
  rw [escpR, h, if_neg hc, if_pos h0]

theorem ret_x {a c : Int} {v : Value} (h : a = c) : Ending.returned (.tuple #[.int .i32 a, v]) = .returned (.tuple #[.int .i32 c, v]) := by rw [h]
theorem wrap32_byte (u : UInt8) : wrap32 (u.toNat : Int) = (u.toNat : Int) := by have := u.toNat_lt; unfold wrap32; omega
theorem pidx2 (s : ByteArray) (c : Int) (i : Int) (w : World) (hi : Lib.indexByte s.data.toList (c.toNat.toUInt8) = i) :
    Calls Tryz.prog 43 #[.string s, .int .u8 c] w fun e w' => e = .returned (.int .i64 i) ∧ w = w' := by
  refine (Tryz.strings_IndexByte s c w).mono ?_
  rintro e w' ⟨rfl, rfl⟩
  rw [hi]
  exact ⟨rfl, rfl⟩
theorem pidx (s : ByteArray) (c : Int) (u : UInt8) (i : Int) (w : World) (hu : c = (u.toNat : Int)) (hi : Lib.indexByte s.data.toList u = i) :
    Calls Tryz.prog 43 #[.string s, .int .u8 c] w fun e w' => e = .returned (.int .i64 i) ∧ w = w' := by
  subst hu
  exact pidx2 s _ i w (by rw [show ((u.toNat : Int)).toNat.toUInt8 = u by simp]; exact hi)

set_option maxHeartbeats 4000000 in
theorem pescape_any (b : Nat) (s : ByteArray) (k : Nat) (op : Int) (lg : Bool) (w : World) {J : Addr} (hp : PS w b s k op lg J) (hk : k ≤ s.size) (hs : s.size ≤ 1000) :
    Calls Tryz.prog 56 #[.pointer (some ⟨b, 0, none⟩)] w fun e w' => Hid (PtIs J (escpR s k) e) ∧ But b w w' ∧ PS w' b s (escpR s k).2.1 op lg J := by
  have HP : Hid (PS w b s k op lg J) := hp
  have hcb := pk_bd s k
  obtain ⟨g0, g1, g2, g3, hf⟩ := pcells hp.1
  obtain ⟨R, hR⟩ : ∃ R, R = escpR s k := ⟨_, rfl⟩
  have HR : Hid (R = escpR s k) := hR
  rw [← hR]
  clear hp hR g0 g2 g3
  by_cases hu : pk s k = 117
  · have hgu : gb s k = 117 := (pk_gb (by omega)).1 hu
    have hks : k < s.size := lt_of_gb (by omega)
    have HH : Hid _ := hpR_escR s (k + 1)
    have HG : Hid _ := fun h => @escR_good s (k + 1) h
    have HF : Hid (R.2 = (hpR s (k + 1)).2 ∧ ((hpR s (k + 1)).2.2 < 0 → R.1 = encB (hpR s (k + 1)).1 ∧ 0 ≤ (hpR s (k + 1)).1 ∧ (hpR s (k + 1)).1 < 1114112 ∧ ((hpR s (k + 1)).1 < 55296 ∨ 57343 < (hpR s (k + 1)).1))) := by
      show _ ∧ _
      obtain ⟨h1, h2, h3⟩ := hpR_escR s (k + 1)
      rw [HR.out, escpR, if_pos hgu]
      simp only
      rw [h1]
      by_cases hb : (escR s (k + 1) (-1)).2.2 < 0
      · have hg := @escR_good s (k + 1) hb
        rw [if_pos hb, h2 hb]
        exact ⟨rfl, fun _ => ⟨rfl, hg.1, hg.2.1, hg.2.2.2.2.2⟩⟩
      · rw [if_neg hb]; exact ⟨rfl, fun h => absurd h hb⟩
    have HUU : Hid (pk s k = 117) := hu
    clear hu hgu HH HG
    go_enter Tryz.func56, Tryz.ntmps56
    go_wp2_with fail
    refine (ptake_yes b s k op lg 117 _ HP.out hk hs HUU.out).mono ?_
    rintro e w1 ⟨rfl, hb1, hp1⟩
    go_wp2_with fail
    refine (hexPoint_any b s (k + 1) op lg _ hp1 hks hs).mono ?_
    rintro e w2 ⟨X, rfl, hX, hb2, hp2⟩
    go_wp2_with fail
    go_ret2
    refine ⟨⟨X, ?_, ?_⟩, hb1.trans hb2, by rw [HF.out.1]; exact hp2⟩
    · rw [HF.out.1]; rfl
    · rw [HF.out.1]; intro h
      obtain ⟨q1, q2, q3, q4⟩ := HF.out.2 h
      rw [q1, hX.out h]
      exact ⟨runeCells_enc q2 q3 q4, by omega, by omega⟩
  · have HU : Hid (pk s k ≠ 117) := hu
    have HUG : Hid (gb s k ≠ 117) := fun h => hu ((pk_gb (by omega)).2 h)
    clear hu
    obtain ⟨c, hc⟩ : ∃ c, c = pk s k := ⟨_, rfl⟩
    have HC : Hid (pk s k = c) := hc.symm
    rcases sh_cases c with h | h
    · have HGC : Hid (gb s k = c) := (pk_gb (by omega)).1 hc.symm
      have hks : k < s.size := lt_of_gb (by rw [HGC.out]; omega)
      clear hc
      rcases h with rfl | rfl | rfl | rfl | rfl | rfl | rfl | rfl
      · have HF : Hid (R = ([34], k + 1, -1)) := HR.out.trans (escp_short HGC.out (by decide) (by decide))
        go_enter Tryz.func56, Tryz.ntmps56
        go_wp2_with fail
        refine (ptake_no b s k op lg 117 _ HP.out hk hs HU.out).mono ?_
        rintro e w1 ⟨rfl, hb1, hp1⟩
        obtain ⟨y0, y1, y2, y3, yf⟩ := pcells hp1.1
        go_wp2_with fail
        refine (peek_any b s k op lg _ hp1 hk hs).mono ?_
        rintro e w2 ⟨rfl, n2, rfl⟩
        rw [HC.out]
        go_wp2_with fail
        refine (pidx ⟨#[34, 92, 47, 98, 102, 110, 114, 116]⟩ 34 34 0 _ rfl (by decide)).mono ?_
        rintro e w3 ⟨rfl, rfl⟩
        go_wp2_with fail
        go_ret2
        refine ⟨⟨34, by rw [HF.out]; exact ret_x ((wrap32_byte _).trans rfl), by rw [HF.out]; exact fun _ => ⟨rfl, by omega, by omega⟩⟩, (hb1.drewN _).setCell _ _, by rw [HF.out]; exact (hp1.drewN _).at (k + 1) (by omega)⟩
      · have HF : Hid (R = ([92], k + 1, -1)) := HR.out.trans (escp_short HGC.out (by decide) (by decide))
        go_enter Tryz.func56, Tryz.ntmps56
        go_wp2_with fail
        refine (ptake_no b s k op lg 117 _ HP.out hk hs HU.out).mono ?_
        rintro e w1 ⟨rfl, hb1, hp1⟩
        obtain ⟨y0, y1, y2, y3, yf⟩ := pcells hp1.1
        go_wp2_with fail
        refine (peek_any b s k op lg _ hp1 hk hs).mono ?_
        rintro e w2 ⟨rfl, n2, rfl⟩
        rw [HC.out]
        go_wp2_with fail
        refine (pidx ⟨#[34, 92, 47, 98, 102, 110, 114, 116]⟩ 92 92 1 _ rfl (by decide)).mono ?_
        rintro e w3 ⟨rfl, rfl⟩
        go_wp2_with fail
        go_ret2
        refine ⟨⟨92, by rw [HF.out]; exact ret_x ((wrap32_byte _).trans rfl), by rw [HF.out]; exact fun _ => ⟨rfl, by omega, by omega⟩⟩, (hb1.drewN _).setCell _ _, by rw [HF.out]; exact (hp1.drewN _).at (k + 1) (by omega)⟩
      · have HF : Hid (R = ([47], k + 1, -1)) := HR.out.trans (escp_short HGC.out (by decide) (by decide))
        go_enter Tryz.func56, Tryz.ntmps56
        go_wp2_with fail
        refine (ptake_no b s k op lg 117 _ HP.out hk hs HU.out).mono ?_
        rintro e w1 ⟨rfl, hb1, hp1⟩
        obtain ⟨y0, y1, y2, y3, yf⟩ := pcells hp1.1
        go_wp2_with fail
        refine (peek_any b s k op lg _ hp1 hk hs).mono ?_
        rintro e w2 ⟨rfl, n2, rfl⟩
        rw [HC.out]
        go_wp2_with fail
        refine (pidx ⟨#[34, 92, 47, 98, 102, 110, 114, 116]⟩ 47 47 2 _ rfl (by decide)).mono ?_
        rintro e w3 ⟨rfl, rfl⟩
        go_wp2_with fail
        go_ret2
        refine ⟨⟨47, by rw [HF.out]; exact ret_x ((wrap32_byte _).trans rfl), by rw [HF.out]; exact fun _ => ⟨rfl, by omega, by omega⟩⟩, (hb1.drewN _).setCell _ _, by rw [HF.out]; exact (hp1.drewN _).at (k + 1) (by omega)⟩
      · have HF : Hid (R = ([8], k + 1, -1)) := HR.out.trans (escp_short HGC.out (by decide) (by decide))
        go_enter Tryz.func56, Tryz.ntmps56
        go_wp2_with fail
        refine (ptake_no b s k op lg 117 _ HP.out hk hs HU.out).mono ?_
        rintro e w1 ⟨rfl, hb1, hp1⟩
        obtain ⟨y0, y1, y2, y3, yf⟩ := pcells hp1.1
        go_wp2_with fail
        refine (peek_any b s k op lg _ hp1 hk hs).mono ?_
        rintro e w2 ⟨rfl, n2, rfl⟩
        rw [HC.out]
        go_wp2_with fail
        refine (pidx ⟨#[34, 92, 47, 98, 102, 110, 114, 116]⟩ 98 98 3 _ rfl (by decide)).mono ?_
        rintro e w3 ⟨rfl, rfl⟩
        go_wp2_with fail
        go_ret2
        refine ⟨⟨8, by rw [HF.out]; exact ret_x ((wrap32_byte _).trans rfl), by rw [HF.out]; exact fun _ => ⟨rfl, by omega, by omega⟩⟩, (hb1.drewN _).setCell _ _, by rw [HF.out]; exact (hp1.drewN _).at (k + 1) (by omega)⟩
      · have HF : Hid (R = ([12], k + 1, -1)) := HR.out.trans (escp_short HGC.out (by decide) (by decide))
        go_enter Tryz.func56, Tryz.ntmps56
        go_wp2_with fail
        refine (ptake_no b s k op lg 117 _ HP.out hk hs HU.out).mono ?_
        rintro e w1 ⟨rfl, hb1, hp1⟩
        obtain ⟨y0, y1, y2, y3, yf⟩ := pcells hp1.1
        go_wp2_with fail
        refine (peek_any b s k op lg _ hp1 hk hs).mono ?_
        rintro e w2 ⟨rfl, n2, rfl⟩
        rw [HC.out]
        go_wp2_with fail
        refine (pidx ⟨#[34, 92, 47, 98, 102, 110, 114, 116]⟩ 102 102 4 _ rfl (by decide)).mono ?_
        rintro e w3 ⟨rfl, rfl⟩
        go_wp2_with fail
        go_ret2
        refine ⟨⟨12, by rw [HF.out]; exact ret_x ((wrap32_byte _).trans rfl), by rw [HF.out]; exact fun _ => ⟨rfl, by omega, by omega⟩⟩, (hb1.drewN _).setCell _ _, by rw [HF.out]; exact (hp1.drewN _).at (k + 1) (by omega)⟩
      · have HF : Hid (R = ([10], k + 1, -1)) := HR.out.trans (escp_short HGC.out (by decide) (by decide))
        go_enter Tryz.func56, Tryz.ntmps56
        go_wp2_with fail
        refine (ptake_no b s k op lg 117 _ HP.out hk hs HU.out).mono ?_
        rintro e w1 ⟨rfl, hb1, hp1⟩
        obtain ⟨y0, y1, y2, y3, yf⟩ := pcells hp1.1
        go_wp2_with fail
        refine (peek_any b s k op lg _ hp1 hk hs).mono ?_
        rintro e w2 ⟨rfl, n2, rfl⟩
        rw [HC.out]
        go_wp2_with fail
        refine (pidx ⟨#[34, 92, 47, 98, 102, 110, 114, 116]⟩ 110 110 5 _ rfl (by decide)).mono ?_
        rintro e w3 ⟨rfl, rfl⟩
        go_wp2_with fail
        go_ret2
        refine ⟨⟨10, by rw [HF.out]; exact ret_x ((wrap32_byte _).trans rfl), by rw [HF.out]; exact fun _ => ⟨rfl, by omega, by omega⟩⟩, (hb1.drewN _).setCell _ _, by rw [HF.out]; exact (hp1.drewN _).at (k + 1) (by omega)⟩
      · have HF : Hid (R = ([13], k + 1, -1)) := HR.out.trans (escp_short HGC.out (by decide) (by decide))
        go_enter Tryz.func56, Tryz.ntmps56
        go_wp2_with fail
        refine (ptake_no b s k op lg 117 _ HP.out hk hs HU.out).mono ?_
        rintro e w1 ⟨rfl, hb1, hp1⟩
        obtain ⟨y0, y1, y2, y3, yf⟩ := pcells hp1.1
        go_wp2_with fail
        refine (peek_any b s k op lg _ hp1 hk hs).mono ?_
        rintro e w2 ⟨rfl, n2, rfl⟩
        rw [HC.out]
        go_wp2_with fail
        refine (pidx ⟨#[34, 92, 47, 98, 102, 110, 114, 116]⟩ 114 114 6 _ rfl (by decide)).mono ?_
        rintro e w3 ⟨rfl, rfl⟩
        go_wp2_with fail
        go_ret2
        refine ⟨⟨13, by rw [HF.out]; exact ret_x ((wrap32_byte _).trans rfl), by rw [HF.out]; exact fun _ => ⟨rfl, by omega, by omega⟩⟩, (hb1.drewN _).setCell _ _, by rw [HF.out]; exact (hp1.drewN _).at (k + 1) (by omega)⟩
      · have HF : Hid (R = ([9], k + 1, -1)) := HR.out.trans (escp_short HGC.out (by decide) (by decide))
        go_enter Tryz.func56, Tryz.ntmps56
        go_wp2_with fail
        refine (ptake_no b s k op lg 117 _ HP.out hk hs HU.out).mono ?_
        rintro e w1 ⟨rfl, hb1, hp1⟩
        obtain ⟨y0, y1, y2, y3, yf⟩ := pcells hp1.1
        go_wp2_with fail
        refine (peek_any b s k op lg _ hp1 hk hs).mono ?_
        rintro e w2 ⟨rfl, n2, rfl⟩
        rw [HC.out]
        go_wp2_with fail
        refine (pidx ⟨#[34, 92, 47, 98, 102, 110, 114, 116]⟩ 116 116 7 _ rfl (by decide)).mono ?_
        rintro e w3 ⟨rfl, rfl⟩
        go_wp2_with fail
        go_ret2
        refine ⟨⟨9, by rw [HF.out]; exact ret_x ((wrap32_byte _).trans rfl), by rw [HF.out]; exact fun _ => ⟨rfl, by omega, by omega⟩⟩, (hb1.drewN _).setCell _ _, by rw [HF.out]; exact (hp1.drewN _).at (k + 1) (by omega)⟩
    · have HX : Hid (Lib.indexByte shL (c.toNat.toUInt8) = -1) := by
        show _ = _
        have := sh_idx_fin ⟨c.toNat, by omega⟩
        simp only [show ((c.toNat : Nat) : Int) = c from by omega] at this
        exact this (by omega)
      have HF : Hid (R = ([], k, (k : Int))) := by
        show _ = _
        rw [HR.out, escpR, if_neg HUG.out, if_neg (by rw [← shortE_pk, HC.out, h]; omega)]
      clear hc h
      go_enter Tryz.func56, Tryz.ntmps56
      go_wp2_with fail
      refine (ptake_no b s k op lg 117 _ HP.out hk hs HU.out).mono ?_
      rintro e w1 ⟨rfl, hb1, hp1⟩
      go_wp2_with fail
      refine (peek_any b s k op lg _ hp1 hk hs).mono ?_
      rintro e w2 ⟨rfl, n2, rfl⟩
      rw [HC.out]
      go_wp2_with fail
      refine (pidx2 ⟨#[34, 92, 47, 98, 102, 110, 114, 116]⟩ c (-1) _ HX.out).mono ?_
      rintro e w3 ⟨rfl, rfl⟩
      go_wp2_with fail
      refine (wrong_any b s k op lg _ (hp1.drewN _)).mono ?_
      rintro e w4 ⟨rfl, n4, rfl⟩
      go_wp2_with fail
      go_ret2
      refine ⟨⟨0, ?_, by rw [HF.out]; exact fun h => absurd h (by simp only; omega)⟩, hb1.drewN _, by rw [HF.out]; exact hp1.drewN _⟩
      rw [HF.out, werr, if_neg (by simp only; omega)]; rfl

end Go.Proofs.YtjaoocincdoaaaaGreatDoor

namespace Go.Proofs.YtjaoocincdoaaaaGreatDoor
open Go.RowKit J

set_option linter.unusedVariables false

/-- 'point' as a function of the place: the bytes, the place behind, what is wrong. -/
def pointR (s : ByteArray) (k : Nat) : List UInt8 × Nat × Int :=
  if gb s k < 32 then ([], k, k)
  else if gb s k = 92 then escpR s (k + 1)
  else if (plainR s k).2 < 0 then ((s.extract k (plainR s k).1).data.toList, plainR s k) else ([], plainR s k)

theorem one_byte (t : ByteArray) (h : t.size = 1) : t.data.toList = [UInt8.ofNat (((t.get! 0).toNat : Int)).toNat] := by
  obtain ⟨⟨l⟩⟩ := t
  match l, h with
  | [a], _ => show [a] = [UInt8.ofNat ((a.toNat : Int)).toNat]; simp
theorem ext_1b {s : ByteArray} {k : Nat} (h : k < s.size) : (s.extract k (k + 1)).data.toList = [UInt8.ofNat (gb s k).toNat] := by
  have hsz : (s.extract k (k + 1)).size = 1 := by rw [ByteArray.size_extract]; omega
  have hg := ext_gb (s := s) (k := k) (n := 1) (i := 0) (by omega) (by omega)
  simp only [Nat.add_zero] at hg
  rw [← hg]
  exact one_byte _ hsz

theorem textF_point (s : ByteArray) (f k : Nat) (acc : List UInt8) : textF s (f + 1) k acc =
    if gb s k = 34 then (acc, k + 1, -1) else if (pointR s k).2.2 < 0 then textF s f (pointR s k).2.1 (acc ++ (pointR s k).1) else ([], (pointR s k).2) := by
  rw [textF]
  split
  · rfl
  · rename_i h34
    rw [pointR]
    by_cases h32 : gb s k < 32
    · rw [if_pos h32, if_pos h32, if_neg (by simp only; omega)]
    · rw [if_neg h32, if_neg h32]
      by_cases h127 : 127 < gb s k
      · rw [if_pos h127, if_neg (show ¬ gb s k = 92 by omega), plain_many h127]
        by_cases hm : (manyR s k (-1)).2 < 0
        · rw [if_pos hm, if_pos hm, if_pos (by exact hm)]
        · rw [if_neg hm, if_neg hm, if_neg (by exact hm)]
      · rw [if_neg h127]
        by_cases h92 : gb s k = 92
        · rw [if_pos h92, if_pos h92]
        · rw [if_neg h92, if_neg h92, plain_one (by omega) (by omega), if_pos (show ((k + 1, (-1 : Int)) : Nat × Int).2 < 0 by show (-1 : Int) < 0; omega), if_pos (show (((s.extract k (k + 1)).data.toList, k + 1, (-1 : Int)) : List UInt8 × Nat × Int).2.2 < 0 by show (-1 : Int) < 0; omega)]
          show _ = textF s f (k + 1) (acc ++ (s.extract k (k + 1)).data.toList)
          rw [ext_1b (s := s) (k := k) (lt_of_gb (by omega))]

theorem plain_place {s : ByteArray} {k : Nat} (h : ¬ (plainR s k).2 < 0) : (plainR s k).2 = ((plainR s k).1 : Int) := by
  have hc : ∀ n lo hi k, ¬ (contF s n lo hi k).2 < 0 → (contF s n lo hi k).2 = ((contF s n lo hi k).1 : Int) := by
    intro n
    induction n with
    | zero => intro lo hi k h; exact absurd (by rw [contF_0]; simp only; omega) h
    | succ n ih =>
      intro lo hi k h
      rw [contF] at h ⊢
      split at h
      · rename_i g; rw [if_pos g]; exact ih _ _ _ h
      · rename_i g; rw [if_neg g]
  rw [plainR] at h ⊢
  split at h
  · rename_i g; rw [if_pos g]
  · rename_i g; rw [if_neg g]; exact hc _ _ _ _ h

theorem dec_le (t : ByteArray) : (Lib.decodeGo t).1 ≤ 2000000000 := by
  rw [Lib.decodeGo]; split
  · decide
  · rw [Lib.decode_at, Lib.decodeN]
    have := (t.get! 0).toNat_lt
    repeat' split
    all_goals (simp only; omega)

set_option maxHeartbeats 2000000 in
theorem point_any (b : Nat) (s : ByteArray) (k : Nat) (op : Int) (lg : Bool) (w : World) {J : Addr} (hp : PS w b s k op lg J) (hT : Tabs w) (h12 : 16 ≤ b) (hk : k ≤ s.size) (hs : s.size ≤ 1000) :
    Calls Tryz.prog 38 #[.pointer (some ⟨b, 0, none⟩)] w fun e w' => Hid (PtIs J (pointR s k) e) ∧ But b w w' ∧ PS w' b s (pointR s k).2.1 op lg J := by
  have HP : Hid (PS w b s k op lg J) := hp
  have HT : Hid (Tabs w) := hT
  have hcb := pk_bd s k
  obtain ⟨R, hR⟩ : ∃ R, R = pointR s k := ⟨_, rfl⟩
  have HR : Hid (R = pointR s k) := hR
  rw [← hR]
  obtain ⟨c, hc⟩ : ∃ c, c = pk s k := ⟨_, rfl⟩
  have HC : Hid (pk s k = c) := hc.symm
  rw [← hc] at hcb
  clear hp hT hR hc
  by_cases h32 : c < 32
  · have HF : Hid (R = ([], k, (k : Int))) := by
      show _ = _
      rw [HR.out, pointR, if_pos]
      rcases pk_eq (s := s) (k := k) with ⟨h, _⟩ | ⟨h1, h2⟩
      · rw [h, HC.out]; exact h32
      · omega
    go_enter Tryz.func38, Tryz.ntmps38
    go_wp2_with fail
    refine (peek_any b s k op lg _ HP.out hk hs).mono ?_
    rintro e w1 ⟨rfl, n1, rfl⟩
    rw [HC.out]
    go_wp2_with fail
    refine (wrong_any b s k op lg _ (HP.out.drewN _)).mono ?_
    rintro e w2 ⟨rfl, n2, rfl⟩
    go_wp2_with fail
    go_ret2
    refine ⟨⟨0, ?_, by rw [HF.out]; exact fun h => absurd h (by simp only; omega)⟩, (But.refl _ _).drewN _, by rw [HF.out]; exact HP.out.drewN _⟩
    rw [HF.out, werr, if_neg (by simp only; omega)]; rfl
  · have HG : Hid (gb s k = c) := (pk_gb (by omega)).1 HC.out
    have hks : k < s.size := lt_of_gb (by rw [HG.out]; omega)
    by_cases h92 : c = 92
    · subst h92
      have HF : Hid (R = escpR s (k + 1)) := by
        show _ = _
        rw [HR.out, pointR, if_neg (by rw [HG.out]; omega), if_pos HG.out]
      go_enter Tryz.func38, Tryz.ntmps38
      go_wp2_with fail
      refine (peek_any b s k op lg _ HP.out hk hs).mono ?_
      rintro e w1 ⟨rfl, n1, rfl⟩
      rw [HC.out]
      go_wp2_with fail
      refine (ptake_yes b s k op lg 92 _ (HP.out.drewN _) hk hs HC.out).mono ?_
      rintro e w2 ⟨rfl, hb2, hp2⟩
      go_wp2_with fail
      refine (pescape_any b s (k + 1) op lg _ hp2 hks hs).mono ?_
      rintro e w3 ⟨⟨X, rfl, hX⟩, hb3, hp3⟩
      have HX : Hid _ := hX
      clear hX
      go_wp2_with fail
      go_ret2
      refine ⟨⟨X, by rw [HF.out]; rfl, by rw [HF.out]; exact HX.out⟩, (((But.refl _ _).drewN _).trans hb2).trans hb3, by rw [HF.out]; exact hp3⟩
    · have HF : Hid (R = if (plainR s k).2 < 0 then ((s.extract k (plainR s k).1).data.toList, plainR s k) else ([], plainR s k)) := by
        show _ = _
        rw [HR.out, pointR, if_neg (by rw [HG.out]; omega), if_neg (by rw [HG.out]; exact h92)]
      have HN : Hid (pk s k ≠ 92) := by show _ ≠ _; rw [HC.out]; exact h92
      go_enter Tryz.func38, Tryz.ntmps38
      go_wp2_with fail
      refine (peek_any b s k op lg _ HP.out hk hs).mono ?_
      rintro e w1 ⟨rfl, n1, rfl⟩
      rw [HC.out]
      go_wp2_with fail
      refine (ptake_no b s k op lg 92 _ (HP.out.drewN _) hk hs HN.out).mono ?_
      rintro e w2 ⟨rfl, hb2, hp2⟩
      go_wp2_with fail
      refine (plain_any b s k op lg _ hp2 (tabs_but (w := w.drewN _) HT.out hb2 h12) h12 hks hs).mono ?_
      rintro e w3 ⟨rfl, hb3, hp3⟩
      have hE : ∃ X, plainV J s k (plainR s k) = .tuple #[.int .i32 X, werr J (plainR s k)] ∧ ((plainR s k).2 < 0 → Lib.runeCells X = bv (s.extract k (plainR s k).1).data.toList ∧ -2147483648 ≤ X ∧ X ≤ 2147483647) := by
        rw [plainV, werr]
        by_cases hpl : (plainR s k).2 < 0
        · rw [if_pos hpl, if_pos hpl]
          obtain ⟨n, _, _, e, _, er⟩ := plain_good (by rw [HG.out]; omega) hpl
          refine ⟨_, rfl, fun _ => ⟨?_, ?_, ?_⟩⟩
          · rw [e]; exact er
          · omega
          · have := dec_le (s.extract k (plainR s k).1); omega
        · rw [if_neg hpl, if_neg hpl]
          exact ⟨0, rfl, fun h => absurd h hpl⟩
      obtain ⟨X, hE1, hE2⟩ := hE
      rw [hE1]
      have HE2 : Hid _ := hE2
      clear hE1 hE2
      go_wp2_with fail
      go_ret2
      refine ⟨⟨X, ?_, ?_⟩, (((But.refl _ _).drewN _).trans hb2).trans hb3, ?_⟩
      · rw [HF.out]; split <;> rfl
      · rw [HF.out]; split
        · exact fun _ => HE2.out (by assumption)
        · exact fun h => absurd h (by assumption)
      · rw [HF.out]; split <;> exact hp3

end Go.Proofs.YtjaoocincdoaaaaGreatDoor

namespace Go.Proofs.YtjaoocincdoaaaaGreatDoor
open Go.RowKit J

set_option linter.unusedVariables false

theorem point_good {s : ByteArray} {k : Nat} (h : (pointR s k).2.2 < 0) : k < (pointR s k).2.1 ∧ (pointR s k).2.1 ≤ s.size ∧ (pointR s k).1.length ≤ 4 * ((pointR s k).2.1 - k) := by
  rw [pointR] at h ⊢
  by_cases h32 : gb s k < 32
  · rw [if_pos h32] at h; simp only at h; omega
  · rw [if_neg h32] at h ⊢
    by_cases h92 : gb s k = 92
    · rw [if_pos h92] at h ⊢
      have := escpR_good (s := s) (k := k + 1) h
      omega
    · rw [if_neg h92] at h ⊢
      by_cases hp : (plainR s k).2 < 0
      · rw [if_pos hp]
        obtain ⟨n, h1, h2, e, h3, _⟩ := plain_good (by omega) hp
        rw [e]
        simp only
        have : (s.extract k (k + n)).data.toList.length = n := by
          have : (s.extract k (k + n)).size = n := by rw [ByteArray.size_extract]; omega
          exact this
        omega
      · rw [if_neg hp] at h; exact absurd h hp

theorem PS.grown {w w' : World} {b : Nat} {s : ByteArray} {k : Nat} {op : Int} {lg : Bool} {J : Addr} {row : Option Nat} {N : Nat} (h : PS w b s k op lg J) (hg : w.grownBy w' row) (hr : ∀ k, row = some k → N ≤ k) (hb : b < N) (hJ : 5 < N) : PS w' b s k op lg J :=
  ⟨(hg.block b (lt_of_heap h.1) (by intro e; have := hr b e.symm; omega)).trans h.1, (hg.block _ (lt_of_heap h.2.1) (by intro e; have := hr _ e.symm; omega)).trans h.2.1, h.2.2⟩
theorem PS.alloc {w : World} {b : Nat} {s : ByteArray} {k : Nat} {op : Int} {lg : Bool} {J : Addr} (h : PS w b s k op lg J) (o : Obj) : PS (w.alloc o) b s k op lg J :=
  ⟨(Below.heap_alloc _ _ _ (lt_of_heap h.1)).trans h.1, (Below.heap_alloc _ _ _ (lt_of_heap h.2.1)).trans h.2.1, h.2.2⟩
theorem tabs_bel {w w' : World} {N b : Nat} (h : Tabs w) (hb : Bel N b w w') (h12 : 16 ≤ b) (hN : 16 ≤ N) : Tabs w' :=
  ⟨fun c hc => cell_keep (h.1 c hc) (hb.block _ (by omega) (by omega)),
   fun i hi => ⟨cell_keep (h.2 i hi).1 (hb.block _ (by omega) (by omega)), cell_keep (h.2 i hi).2 (hb.block _ (by omega) (by omega))⟩⟩

set_option maxHeartbeats 4000000 in
theorem quoted_any (b : Nat) (s : ByteArray) (k : Nat) (op : Int) (lg : Bool) (w : World) {J : Addr} (hp : PS w b s k op lg J) (hT : Tabs w) (h12 : 16 ≤ b) (hs : s.size ≤ 1000) (hq : gb s k = 34) :
    Calls Tryz.prog 22 #[.pointer (some ⟨b, 0, none⟩)] w fun e w' => e = .returned (.tuple #[.string ⟨(textR s k).1.toArray⟩, werr J (textR s k).2]) ∧ But b w w' ∧ PS w' b s (textR s k).2.1 op lg J := by
  have hk : k < s.size := lt_of_gb (by omega)
  have hbN := lt_of_heap hp.1
  have HP : Hid (PS w b s k op lg J) := hp
  have HT0 : Hid (Tabs w) := hT
  obtain ⟨g0, g1, g2, g3, hf⟩ := pcells hp.1
  obtain ⟨N, hN⟩ : ∃ N, N = w.heap.size := ⟨_, rfl⟩
  obtain ⟨R, hR⟩ : ∃ R, R = textR s k := ⟨_, rfl⟩
  have HR : Hid (textF s (s.size + 1) (k + 1) [] = R) := by show _ = _; rw [hR, textR, if_pos hq]
  rw [← hR]
  have HN : Hid (N = w.heap.size) := hN
  have hNle : N ≤ w.heap.size := by omega
  have hbN' : b < N := by omega
  clear hR hq hN hp hT g0 g2 g3
  go_enter Tryz.func22, Tryz.ntmps22
  go_wp2_with fail
  go_loopg [4] (s.size + 1) (fun g out wr => Bel N b w wr ∧ N ≤ wr.heap.size ∧ ∃ j acc, j ≤ s.size ∧ s.size < j + g ∧ textF s g j acc = R ∧ PS wr b s j op lg J ∧ OB wr N out acc ∧ acc.length ≤ 4 * j)
  case atStart => exact ⟨(Bel.refl _ _ _).setCell _ _, by simp [World.setCell]; omega, k + 1, [], by omega, by omega, HR.out, HP.out.at (k + 1) (by omega), OB.nil _ _, by simp⟩
  case round =>
    obtain ⟨hbel, hsz, j, acc, hj, hjg, hT, hps, hown, hlen⟩ := hrel
    obtain ⟨f, rfl⟩ : ∃ f, gk = f + 1 := ⟨gk - 1, by omega⟩
    have HP1 : Hid (PS wr b s j op lg J) := hps
    have HT : Hid (textF s (f + 1) j acc = R) := hT
    clear hps hT g1 hf
    by_cases h34 : pk s j = 34
    · have hg : gb s j = 34 := (pk_gb (by omega)).1 h34
      have HF : Hid (R = (acc, j + 1, -1)) := by show _ = _; rw [← HT.out, textF_point, if_pos hg]
      have HC : Hid (pk s j = 34) := h34
      clear h34 hg
      go_wp2_with fail
      refine (ptake_yes b s j op lg 34 _ HP1.out hj hs HC.out).mono ?_
      rintro e w2 ⟨rfl, hb2, hp2⟩
      have hcv : (convert 44 9 u4).run Tryz.prog w2 = .ok (.string ⟨acc.toArray⟩) w2 := conv_own (hown.kept hb2 hbN')
      go_wp2_with fail
      go_ret2
      have hbel' : Bel w.heap.size b w wr := HN.out ▸ hbel
      exact ⟨by rw [HF.out]; rfl, hbel'.but.trans hb2, by rw [HF.out]; exact hp2⟩
    · have HC : Hid (pk s j ≠ 34) := h34
      have HG : Hid (gb s j ≠ 34) := fun h => h34 ((pk_gb (by omega)).2 h)
      have HTT : Hid (Tabs wr) := tabs_bel HT0.out hbel h12 (by omega)
      clear h34
      go_wp2_with fail
      refine (ptake_no b s j op lg 34 _ HP1.out hj hs HC.out).mono ?_
      rintro e w2 ⟨rfl, hb2, hp2⟩
      go_wp2_with fail
      refine (point_any b s j op lg _ hp2 (tabs_but HTT.out hb2 h12) h12 hj hs).mono ?_
      rintro e w3 ⟨⟨X, rfl, hX⟩, hb3, hp3⟩
      have HX : Hid _ := hX
      have hbel3 : Bel N b w w3 := hbel.trans (Bel.of_but (hb2.trans hb3) hsz)
      have hsz3 : N ≤ w3.heap.size := Nat.le_trans hsz (hb2.trans hb3).size
      have hown3 : OB w3 N u4 acc := hown.kept (hb2.trans hb3) hbN'
      clear hX hb2 hb3 hp2 hown
      by_cases hgood : (pointR s j).2.2 < 0
      · have hpg := point_good hgood
        have HF : Hid (textF s f (pointR s j).2.1 (acc ++ (pointR s j).1) = R) := by show _ = _; rw [← HT.out, textF_point, if_neg HG.out, if_pos hgood]
        have HXX : Hid (Lib.runeCells X = bv (pointR s j).1 ∧ -2147483648 ≤ X ∧ X ≤ 2147483647) := HX.out hgood
        rw [werr, if_pos hgood]
        clear HX hgood
        go_wp2_with fail
        refine (Tryz.utf8_AppendRune_plain N u4 acc.length (bv acc) X HXX.out.2.1 HXX.out.2.2 _ hown3 (by omega) hsz3).mono ?_
        rintro e w4 ⟨v', rfl, hown4, o, hgr⟩
        have hown4' : OB w4 N v' (acc ++ (pointR s j).1) := by
          rw [HXX.out.1, ← bv_append, bv_length] at hown4
          show World.ownsRow _ _ _ _ _ _ _
          rw [List.length_append]; exact hown4
        have hB4 : Bel N b w w4 := (hbel3.alloc hsz3 o).trans (Bel.of_grown hgr (by simp; omega) hown3.below)
        have hsz4 : N ≤ w4.heap.size := by have := hgr.size; simp at this; omega
        have hp4 : PS w4 b s (pointR s j).2.1 op lg J := (hp3.alloc o).grown hgr hown3.below hbN' (by omega)
        clear hgr hown4
        go_wp2_with fail
        go_roundg f
        case measure => omega
        case rel => exact ⟨hB4, hsz4, (pointR s j).2.1, acc ++ (pointR s j).1, hpg.2.1, by omega, HF.out, hp4, hown4', by rw [List.length_append]; omega⟩
      · have HF : Hid (R = ([], (pointR s j).2)) := by show _ = _; rw [← HT.out, textF_point, if_neg HG.out, if_neg hgood]
        rw [werr, if_neg hgood, errV]
        go_wp2_with fail
        go_ret2
        have hbel' : Bel w.heap.size b w w3 := HN.out ▸ hbel3
        refine ⟨?_, hbel'.but, by rw [HF.out]; exact hp3⟩
        rw [HF.out, werr, if_neg (show ¬ (([], (pointR s j).2) : List UInt8 × Nat × Int).2.2 < 0 by show ¬ (pointR s j).2.2 < 0; omega)]; rfl

end Go.Proofs.YtjaoocincdoaaaaGreatDoor

namespace Go.Proofs.YtjaoocincdoaaaaGreatDoor
open Go.RowKit J

set_option linter.unusedVariables false

/-- 'power' from p on: no farther than 2^40. -/
def powP : List UInt8 → Int → Int
  | [], p => p
  | c :: cs, p => powP cs (min (p * 10 + ((c.toNat : Int) - 48)) 1099511627776)

theorem pre_yes (c : UInt8) (l : List UInt8) : Lib.trimPrefix (c :: l) [c] = l ∧ Lib.hasPrefix (c :: l) [c] = true := by
  simp [Lib.trimPrefix, Lib.hasPrefix, List.isPrefixOf]
theorem pre_no (c : UInt8) (l : List UInt8) (h : ∀ x, l.head? = some x → x ≠ c) : Lib.trimPrefix l [c] = l ∧ Lib.hasPrefix l [c] = false := by
  have h2 : Lib.hasPrefix l [c] = false := by
    cases l with
    | nil => rfl
    | cons a l =>
      have := h a rfl
      simp only [Lib.hasPrefix, List.isPrefixOf, Bool.and_true, beq_eq_false_iff_ne]
      exact fun e => this e.symm
  exact ⟨by rw [Lib.trimPrefix, h2]; rfl, h2⟩

theorem dig_head {t : ByteArray} (h : Digs t) {c : UInt8} (hc : c.toNat < 48) : ∀ x, t.data.toList.head? = some x → x ≠ c := by
  intro x hx e
  have hm : x ∈ t.data.toList := List.mem_of_mem_head? (by rw [hx]; rfl)
  have := h.mem x hm
  rw [e] at this; omega

/-- The loop over the digits, as the walk has it behind the two cuts. -/
def powSg (sg : Nat) (t : ByteArray) : ByteArray := if sg = 0 then t else if sg = 1 then ⟨(45 :: t.data.toList).toArray⟩ else ⟨(43 :: t.data.toList).toArray⟩

theorem pow_cut1 (sg : Nat) (t : ByteArray) (h : Digs t) (w : World) : Calls Tryz.prog 66 #[.string (powSg sg t), .string ⟨#[45]⟩] w fun e w' => e = .returned (.tuple #[.string (if sg = 0 ∨ sg = 1 then t else powSg sg t), .bool (decide (sg = 1))]) ∧ w = w' := by
  refine (Tryz.strings_CutPrefix _ _ w).mono ?_
  rintro e w' ⟨rfl, rfl⟩
  refine ⟨?_, rfl⟩
  rw [show (ByteArray.mk #[45]).data.toList = [45] from rfl]
  by_cases h0 : sg = 0
  · obtain ⟨e1, e2⟩ := pre_no 45 t.data.toList (dig_head h (by decide))
    rw [powSg, if_pos h0, if_pos (.inl h0), e1, e2]; simp [h0]
  · by_cases h1 : sg = 1
    · obtain ⟨e1, e2⟩ := pre_yes 45 t.data.toList
      rw [powSg, if_neg h0, if_pos h1, if_pos (.inr h1)]
      simp only [e1, e2]; simp [h1]
    · obtain ⟨e1, e2⟩ := pre_no 45 (43 :: t.data.toList) (by intro x hx; simp at hx; rw [← hx]; decide)
      rw [powSg, if_neg h0, if_neg h1, if_neg (by omega)]
      simp only [e1, e2]; simp [h1]

theorem pow_cut2 (sg : Nat) (t : ByteArray) (h : Digs t) (w : World) : Calls Tryz.prog 102 #[.string (if sg = 0 ∨ sg = 1 then t else powSg sg t), .string ⟨#[43]⟩] w fun e w' => e = .returned (.string t) ∧ w = w' := by
  refine (Tryz.strings_TrimPrefix _ _ w).mono ?_
  rintro e w' ⟨rfl, rfl⟩
  refine ⟨?_, rfl⟩
  rw [show (ByteArray.mk #[43]).data.toList = [43] from rfl]
  by_cases h0 : sg = 0 ∨ sg = 1
  · obtain ⟨e1, e2⟩ := pre_no 43 t.data.toList (dig_head h (by decide))
    rw [if_pos h0, e1]
  · obtain ⟨e1, e2⟩ := pre_yes 43 t.data.toList
    rw [if_neg h0, powSg, if_neg (by omega), if_neg (by omega)]
    simp only [e1]

theorem powP_bd : ∀ (l : List UInt8) (p : Int), 0 ≤ p → p ≤ 1099511627776 → (∀ c ∈ l, 48 ≤ c.toNat ∧ c.toNat ≤ 57) → 0 ≤ powP l p ∧ powP l p ≤ 1099511627776
  | [], p, h0, h1, _ => ⟨h0, h1⟩
  | c :: cs, p, h0, h1, hd => by
    have hc := hd c (by simp)
    rw [powP]
    exact powP_bd cs _ (by omega) (by omega) (fun x hx => hd x (by simp [hx]))

set_option maxHeartbeats 2000000 in
theorem power_any (sg : Nat) (t : ByteArray) (w : World) (h : Digs t) (ht : t.size ≤ 1000) :
    Calls Tryz.prog 70 #[.string (powSg sg t)] w fun e w' => e = .returned (.int .i64 (if sg = 1 then - powP t.data.toList 0 else powP t.data.toList 0)) ∧ w = w' := by
  have HD : Hid (Digs t) := h
  have hpb := powP_bd t.data.toList 0 (by omega) (by omega) h.mem
  obtain ⟨R, hR⟩ : ∃ R, R = powP t.data.toList 0 := ⟨_, rfl⟩
  have HR : Hid (powP t.data.toList 0 = R) := hR.symm
  rw [← hR] at hpb ⊢
  clear h hR
  go_enter Tryz.func70, Tryz.ntmps70
  go_wp2_with fail
  refine (pow_cut1 sg t HD.out _).mono ?_
  rintro e w1 ⟨rfl, rfl⟩
  obtain ⟨t1, ht1⟩ : ∃ t1, t1 = if sg = 0 ∨ sg = 1 then t else powSg sg t := ⟨_, rfl⟩
  obtain ⟨ng, hng⟩ : ∃ ng, ng = decide (sg = 1) := ⟨_, rfl⟩
  have HT1 : Hid (t1 = if sg = 0 ∨ sg = 1 then t else powSg sg t) := ht1
  have HNG : Hid (ng = decide (sg = 1)) := hng
  rw [← ht1, ← hng]
  clear ht1 hng
  go_wp2_with fail
  rw [HT1.out]
  refine (pow_cut2 sg t HD.out _).mono ?_
  rintro e w1 ⟨rfl, rfl⟩
  rw [← HT1.out]
  go_wp2_with fail
  go_loopg [16, 5] t.size (fun g i p wr => ∃ (m : Nat) (q : Int), w = wr ∧ m ≤ t.size ∧ g = t.size - m ∧ i = .int .i64 m ∧ p = .int .i64 q ∧ 0 ≤ q ∧ q ≤ 1099511627776 ∧ powP (t.data.toList.drop m) q = R)
  case atStart => exact ⟨0, 0, rfl, by omega, by omega, rfl, rfl, by omega, by omega, by simpa using HR.out⟩
  case round =>
    obtain ⟨m, q, rfl, hm, hg, rfl, rfl, hq0, hq1, hX⟩ := hrel
    have HG : Hid (gk = t.size - m) := hg
    have HX : Hid (powP (t.data.toList.drop m) q = R) := hX
    clear hg hX
    by_cases hlt : m < t.size
    · have hdd := HD.out m hlt
      obtain ⟨d1, d2⟩ := hdd
      have HN : Hid (powP (t.data.toList.drop (m + 1)) (min (q * 10 + (((t[m]'hlt).toNat : Int) - 48)) 1099511627776) = R) := by
        show _ = _
        rw [← HX.out, drop_cons' t m hlt, powP]
      go_wp2
      go_roundg (t.size - (m + 1))
      case measure => rw [HG.out]; omega
      case rel => exact ⟨m + 1, min (q * 10 + (((t[m]'hlt).toNat : Int) - 48)) 1099511627776, rfl, by omega, rfl, by go_num, rfl, by omega, by omega, HN.out⟩
    · have HN : Hid (R = q) := by
        show _ = _
        rw [← HX.out, List.drop_eq_nil_of_le (by simp; omega), powP]
      cases ng
      · have hs1 : ¬ sg = 1 := of_decide_eq_false HNG.out.symm
        go_wp2
        go_ret
        exact ⟨by rw [HN.out]; rfl, rfl⟩
      · have hs1 : sg = 1 := of_decide_eq_true HNG.out.symm
        go_wp2
        go_ret
        exact ⟨by rw [HN.out]; rfl, rfl⟩

end Go.Proofs.YtjaoocincdoaaaaGreatDoor
