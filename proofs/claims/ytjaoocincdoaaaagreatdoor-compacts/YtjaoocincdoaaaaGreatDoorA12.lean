/- The document's number is its digits, read as one, with noughts behind. Digits trimmed and parsed: no program is walked here. The two powers come to one; what the program's 'exact' reckons is what the document's does. The program's 'exact': how a numeral is cut up. The program's 'exact', walked. A numeral's bytes, in parts. -/
import Derived.Test.YtjaoocincdoaaaaGreatDoorA11
import Derived.Deep.DeepCutAuto
namespace Go.Proofs.YtjaoocincdoaaaaGreatDoor
open Go.RowKit J

set_option linter.unusedVariables false

/-- What digits say as a whole number. -/
def valC : List UInt8 → Int
  | [] => 0
  | c :: cs => ((c.toNat : Int) - 48) * 10 ^ cs.length + valC cs

def DigL (l : List UInt8) : Prop := ∀ c ∈ l, 48 ≤ c.toNat ∧ c.toNat ≤ 57
theorem DigL.tail {c : UInt8} {cs : List UInt8} (h : DigL (c :: cs)) : DigL cs := fun x hx => h x (by simp [hx])

theorem pow_pos10 (n : Nat) : (1 : Int) ≤ 10 ^ n := by
  have : (0 : Int) < 10 ^ n := Int.pow_pos (by omega)
  omega

theorem valC_nonneg : ∀ {l : List UInt8}, DigL l → 0 ≤ valC l
  | [], _ => by simp [valC]
  | c :: cs, h => by
    have hc := h c (by simp)
    have := valC_nonneg h.tail
    have h2 : 0 ≤ ((c.toNat : Int) - 48) * 10 ^ cs.length := Int.mul_nonneg (by omega) (by have := pow_pos10 cs.length; omega)
    rw [valC]; omega

theorem c48 {c : UInt8} (h : c ≠ 48) (hd : 48 ≤ c.toNat) : 1 ≤ (c.toNat : Int) - 48 := by
  have : c.toNat ≠ 48 := fun e => h (UInt8.toNat.inj (by rw [e]; rfl))
  omega

theorem exactF_zeros (point : Int) : ∀ (l : List UInt8) (i : Nat) (n : Int), (∀ c ∈ l, c = 48) → exactF point l i n = some n
  | [], i, n, _ => rfl
  | c :: cs, i, n, h => by rw [exactF_zero (h c (by simp))]; exact exactF_zeros point cs _ n (fun x hx => h x (by simp [hx]))

theorem exactF_core (point : Int) (zs : List UInt8) (hz : ∀ c ∈ zs, c = 48) : ∀ (core : List UInt8) (i : Nat) (n : Int), DigL core → core ≠ [] → core.getLast? ≠ some 48 → 0 ≤ n → n ≤ 1000000000000000 →
    exactF point (core ++ zs) i n = if 0 ≤ point - (i : Int) - (core.length : Int) + 6 ∧ n + valC core * 10 ^ (point - (i : Int) - (core.length : Int) + 6).toNat ≤ 1000000000000000 then some (n + valC core * 10 ^ (point - (i : Int) - (core.length : Int) + 6).toNat) else none
  | [], i, n, _, hne, _, _, _ => absurd rfl hne
  | c :: cs, i, n, hd, _, hl, h0, h1 => by
    have hc := hd c (by simp)
    have hvn := valC_nonneg hd.tail
    obtain ⟨e, he⟩ : ∃ e : Int, e = point - (i : Int) - (((c :: cs).length : Nat) : Int) + 6 := ⟨_, rfl⟩
    have hlen : (((c :: cs).length : Nat) : Int) = (cs.length : Int) + 1 := by simp
    have hpe : point - (i : Int) + 5 = e + (cs.length : Int) := by rw [he, hlen]; omega
    rw [← he]
    have hv : valC (c :: cs) * 10 ^ e.toNat = ((c.toNat : Int) - 48) * 10 ^ (cs.length + e.toNat) + valC cs * 10 ^ e.toNat := by
      rw [valC, Int.add_mul, Int.mul_assoc, ← Int.pow_add]
    have hvp : 0 ≤ valC cs * 10 ^ e.toNat := Int.mul_nonneg hvn (by have := pow_pos10 e.toNat; omega)
    have ihe : ∀ i' : Nat, i' = i + 1 → point - (i' : Int) - (cs.length : Int) + 6 = e := fun i' h => by rw [he, hlen, h]; omega
    show exactF point (c :: (cs ++ zs)) i n = _
    by_cases h48 : c = 48
    · have hcs : cs ≠ [] := fun h => hl (by rw [h, h48]; rfl)
      have hl2 : cs.getLast? ≠ some 48 := by
        cases cs with
        | nil => exact absurd rfl hcs
        | cons a a2 => simpa [List.getLast?_cons_cons] using hl
      have hv0 : valC (c :: cs) = valC cs := by rw [valC, h48]; simp
      rw [exactF_zero h48, exactF_core point zs hz cs (i + 1) n hd.tail hcs hl2 h0 h1, ihe _ rfl, hv0]
    · have hd1 := c48 h48 hc.1
      have hpp := pow_pos10 (cs.length + e.toNat)
      have hge : 10 ^ (cs.length + e.toNat) ≤ ((c.toNat : Int) - 48) * 10 ^ (cs.length + e.toNat) := by
        have := Int.mul_le_mul_of_nonneg_right hd1 (show (0 : Int) ≤ 10 ^ (cs.length + e.toNat) by omega)
        omega
      by_cases hneg : e < 0
      · rw [if_neg (by omega)]
        by_cases hf : point - (i : Int) + 5 < 0 ∨ 15 < point - (i : Int) + 5
        · exact exactF_far h48 hf
        · by_cases hb : 1000000000000000 < n + ((c.toNat : Int) - 48) * 10 ^ (point - (i : Int) + 5).toNat
          · exact exactF_big h48 hf hb
          · have hcs : cs ≠ [] := fun h => by rw [h] at hpe; simp at hpe; omega
            have hl2 : cs.getLast? ≠ some 48 := by
              cases cs with
              | nil => exact absurd rfl hcs
              | cons a a2 => simpa [List.getLast?_cons_cons] using hl
            have hmb := mul_pow_bd (d := (c.toNat : Int) - 48) (p := (point - (i : Int) + 5).toNat) (by omega) (by omega) (by omega)
            rw [exactF_next h48 hf hb, exactF_core point zs hz cs (i + 1) _ hd.tail hcs hl2 (by omega) (by omega), ihe _ rfl, if_neg (by omega)]
      · have hpn : (point - (i : Int) + 5).toNat = cs.length + e.toNat := by omega
        by_cases hf : point - (i : Int) + 5 < 0 ∨ 15 < point - (i : Int) + 5
        · rw [exactF_far h48 hf, if_neg]
          have h16 : (10 : Int) ^ 16 ≤ 10 ^ (cs.length + e.toNat) := by
            have : (10 : Nat) ^ 16 ≤ 10 ^ (cs.length + e.toNat) := Nat.pow_le_pow_right (by omega) (by omega)
            exact_mod_cast this
          rw [hv]; omega
        · by_cases hb : 1000000000000000 < n + ((c.toNat : Int) - 48) * 10 ^ (point - (i : Int) + 5).toNat
          · rw [exactF_big h48 hf hb, if_neg]
            rw [hpn] at hb
            rw [hv]; omega
          · rw [exactF_next h48 hf hb, hpn]
            rw [hpn] at hb
            by_cases hcs : cs = []
            · subst hcs
              rw [List.nil_append, exactF_zeros point zs _ _ hz, hv]
              simp only [valC, Int.zero_mul, Int.add_zero]
              rw [if_pos ⟨by omega, by omega⟩]
            · have hl2 : cs.getLast? ≠ some 48 := by
                cases cs with
                | nil => exact absurd rfl hcs
                | cons a a2 => simpa [List.getLast?_cons_cons] using hl
              rw [exactF_core point zs hz cs (i + 1) _ hd.tail hcs hl2 (by omega) (by omega), ihe _ rfl, hv, Int.add_assoc]

end Go.Proofs.YtjaoocincdoaaaaGreatDoor

namespace Go.Proofs.YtjaoocincdoaaaaGreatDoor
open Go.RowKit J

set_option linter.unusedVariables false

theorem valC_append : ∀ (a b : List UInt8), valC (a ++ b) = valC a * 10 ^ b.length + valC b
  | [], b => by simp [valC]
  | c :: cs, b => by
    rw [List.cons_append, valC, valC, valC_append cs b, List.length_append, Int.pow_add, Int.add_mul, Int.mul_assoc, Int.add_assoc]
theorem valC_zeros : ∀ {l : List UInt8}, (∀ c ∈ l, c = 48) → valC l = 0
  | [], _ => rfl
  | c :: cs, h => by
    rw [valC, valC_zeros (fun x hx => h x (by simp [hx])), h c (by simp)]; simp
theorem rep_zeros : ∀ n, (∀ c ∈ Lib.repeatL [48] n, c = (48 : UInt8)) ∧ (Lib.repeatL [48] n).length = n
  | 0 => ⟨by simp [Lib.repeatL], rfl⟩
  | n + 1 => by
    obtain ⟨h1, h2⟩ := rep_zeros n
    refine ⟨fun c hc => ?_, ?_⟩
    · rw [Lib.repeatL] at hc
      simp only [List.cons_append, List.nil_append, List.mem_cons] at hc
      rcases hc with rfl | hc
      · rfl
      · exact h1 c hc
    · rw [Lib.repeatL]; simp [h2]
theorem valC_rep (a : List UInt8) (n : Nat) : valC (a ++ Lib.repeatL [48] n) = valC a * 10 ^ n := by
  rw [valC_append, (rep_zeros n).2, valC_zeros (rep_zeros n).1, Int.add_zero]

theorem parseM : ∀ (l : List UInt8) (acc : Nat), DigL l → acc ≤ 18446744073709551615 →
    Lib.parseUintM 18446744073709551615 acc l = if (acc : Int) * 10 ^ l.length + valC l ≤ 18446744073709551615 then .ok ((acc : Int) * 10 ^ l.length + valC l).toNat else .range
  | [], acc, _, h => by
    simp only [List.length_nil, Int.pow_zero, Int.mul_one, valC, Int.add_zero]
    rw [Lib.parseUintM, if_pos (by omega)]; simp
  | c :: cs, acc, hd, h => by
    have hc := hd c (by simp)
    have hvn := valC_nonneg hd.tail
    have hp := pow_pos10 cs.length
    obtain ⟨P, hP⟩ : ∃ P : Int, P = 10 ^ cs.length := ⟨_, rfl⟩
    obtain ⟨a2, ha2⟩ : ∃ a2 : Nat, a2 = acc * 10 + (c.toNat - 48) := ⟨_, rfl⟩
    have hsum : (acc : Int) * 10 ^ (c :: cs).length + valC (c :: cs) = (a2 : Int) * 10 ^ cs.length + valC cs := by
      rw [valC, List.length_cons, Int.pow_succ, ← hP, ← Int.add_assoc, ha2]
      have : ((acc * 10 + (c.toNat - 48) : Nat) : Int) = (acc : Int) * 10 + ((c.toNat : Int) - 48) := by omega
      rw [this, Int.add_mul, Int.mul_comm P 10, ← Int.mul_assoc]
    have hge : (a2 : Int) ≤ (a2 : Int) * 10 ^ cs.length := by
      have := Int.mul_le_mul_of_nonneg_left hp (show (0 : Int) ≤ (a2 : Int) by omega)
      omega
    rw [hsum, Lib.parseUintM, if_pos hc, ← ha2]
    split
    · rw [if_neg (by omega)]
    · split
      · rw [if_neg (by omega)]
      · exact parseM cs a2 hd.tail (by omega)

theorem parseI {l : List UInt8} (hd : DigL l) (hne : l ≠ []) : Lib.parseIntB 64 l = if valC l < 9223372036854775808 then .ok (valC l) else .range := by
  have hv := valC_nonneg hd
  cases l with
  | nil => exact absurd rfl hne
  | cons c r =>
    have hc := hd c (by simp)
    rw [Lib.parseIntB]
    rw [if_neg (show ¬ (c.toNat = 43 ∨ c.toNat = 45) by omega), Lib.parseUintB, if_neg (by simp), show (2 ^ 64 - 1 : Nat) = 18446744073709551615 from rfl, parseM (c :: r) 0 hd (by omega)]
    by_cases h64 : valC (c :: r) ≤ 18446744073709551615
    · rw [show ((0 : Nat) : Int) * 10 ^ (c :: r).length + valC (c :: r) = valC (c :: r) by simp]
      rw [if_pos h64]
      simp only
      by_cases h63 : valC (c :: r) < 9223372036854775808
      · rw [if_pos h63, if_neg (by simp only [show (2 ^ (64 - 1) : Nat) = 9223372036854775808 from rfl]; omega), if_neg (by omega), if_neg (by omega)]
        congr 1; omega
      · rw [if_neg h63, if_pos (by simp only [show (2 ^ (64 - 1) : Nat) = 9223372036854775808 from rfl]; omega)]
    · rw [show ((0 : Nat) : Int) * 10 ^ (c :: r).length + valC (c :: r) = valC (c :: r) by simp]
      rw [if_neg h64, if_neg (by omega)]

/-- What is cut off on the left, on the right. -/
theorem left_zeros : ∀ (l : List UInt8), ∃ zs, l = zs ++ Lib.trimLeftB l 48 ∧ (∀ c ∈ zs, c = 48) ∧ (Lib.trimLeftB l 48).head? ≠ some 48
  | [] => ⟨[], rfl, by simp, by simp [Lib.trimLeftB]⟩
  | c :: cs => by
    by_cases h : c = 48
    · obtain ⟨zs, h1, h2, h3⟩ := left_zeros cs
      have e : Lib.trimLeftB (c :: cs) 48 = Lib.trimLeftB cs 48 := by simp [Lib.trimLeftB, h]
      rw [e]
      exact ⟨c :: zs, by rw [List.cons_append, ← h1], fun x hx => by simp at hx; rcases hx with rfl | hx; exact h; exact h2 x hx, h3⟩
    · have e : Lib.trimLeftB (c :: cs) 48 = c :: cs := by simp [Lib.trimLeftB, h]
      rw [e]
      exact ⟨[], rfl, by simp, by simp [h]⟩
theorem right_zeros (l : List UInt8) : ∃ zs, l = Lib.trimRightB l 48 ++ zs ∧ (∀ c ∈ zs, c = 48) ∧ (Lib.trimRightB l 48).getLast? ≠ some 48 := by
  obtain ⟨zs, h1, h2, h3⟩ := left_zeros l.reverse
  refine ⟨zs.reverse, ?_, fun c hc => h2 c (by simpa using hc), ?_⟩
  · have := congrArg List.reverse h1
    rw [List.reverse_reverse, List.reverse_append] at this
    exact this
  · show ((Lib.trimLeftB l.reverse 48).reverse).getLast? ≠ some 48
    rw [List.getLast?_reverse]; exact h3

theorem exactF_lead (point : Int) (l : List UInt8) (n : Int) : ∀ (zs : List UInt8) (i : Nat), (∀ c ∈ zs, c = 48) → exactF point (zs ++ l) i n = exactF point l (i + zs.length) n
  | [], i, _ => by simp
  | c :: cs, i, h => by
    rw [List.cons_append, exactF_zero (h c (by simp)), exactF_lead point l n cs (i + 1) (fun x hx => h x (by simp [hx]))]
    congr 1; simp; omega

/-- The document's number, as the program reckons it. -/
theorem exactR_trim (ds : List UInt8) (point : Int) (hd : DigL ds) : exactR ds point =
    if Lib.trimRightB (Lib.trimLeftB ds 48) 48 = [] then some 0
    else if 0 ≤ point - (ds.length : Int) + ((Lib.trimLeftB ds 48).length : Int) - ((Lib.trimRightB (Lib.trimLeftB ds 48) 48).length : Int) + 6 ∧ valC (Lib.trimRightB (Lib.trimLeftB ds 48) 48) * 10 ^ (point - (ds.length : Int) + ((Lib.trimLeftB ds 48).length : Int) - ((Lib.trimRightB (Lib.trimLeftB ds 48) 48).length : Int) + 6).toNat ≤ 1000000000000000
      then some (valC (Lib.trimRightB (Lib.trimLeftB ds 48) 48) * 10 ^ (point - (ds.length : Int) + ((Lib.trimLeftB ds 48).length : Int) - ((Lib.trimRightB (Lib.trimLeftB ds 48) 48).length : Int) + 6).toNat) else none := by
  obtain ⟨z1, e1, h1, _⟩ := left_zeros ds
  obtain ⟨z2, e2, h2, h3⟩ := right_zeros (Lib.trimLeftB ds 48)
  generalize Lib.trimRightB (Lib.trimLeftB ds 48) 48 = C at *
  generalize Lib.trimLeftB ds 48 = D at *
  subst e2
  subst e1
  rw [exactR, exactF_lead point _ 0 z1 0 h1]
  by_cases hC : C = []
  · rw [if_pos hC]
    subst hC
    exact exactF_zeros point _ _ _ (by simpa using h2)
  · have hdC : DigL C := fun c hc => hd c (by simp [hc])
    rw [if_neg hC, exactF_core point z2 h2 C _ 0 hdC hC h3 (by omega) (by omega)]
    have : point - ((0 + z1.length : Nat) : Int) - (C.length : Int) + 6 = point - ((z1 ++ (C ++ z2)).length : Int) + ((C ++ z2).length : Int) - (C.length : Int) + 6 := by
      simp only [List.length_append]; omega
    rw [this]
    simp only [Int.zero_add]

end Go.Proofs.YtjaoocincdoaaaaGreatDoor

namespace Go.Proofs.YtjaoocincdoaaaaGreatDoor
open Go.RowKit J

set_option linter.unusedVariables false

theorem pow_two_ : ∀ (l : List UInt8) (p q : Int), DigL l → 0 ≤ p → p ≤ 2000000 → 0 ≤ q → (p = q ∨ (100000 ≤ p ∧ 100000 ≤ q)) → powF l p = powP l q ∨ (100000 ≤ powF l p ∧ 100000 ≤ powP l q)
  | [], p, q, _, _, _, _, h => h
  | c :: cs, p, q, hd, h0, h1, h2, h => by
    have hc := hd c (by simp)
    rw [powF, powP]
    split
    · exact pow_two_ cs _ _ hd.tail (by omega) (by omega) (by omega) (by omega)
    · exact pow_two_ cs _ _ hd.tail (by omega) (by omega) (by omega) (by omega)

theorem valC_pos : ∀ {l : List UInt8}, DigL l → l ≠ [] → l.getLast? ≠ some 48 → 1 ≤ valC l
  | [], _, h, _ => absurd rfl h
  | [c], hd, _, hl => by
    have := c48 (c := c) (fun e => hl (by rw [e]; rfl)) (hd c (by simp)).1
    simp only [valC, List.length_nil, Int.pow_zero, Int.mul_one, Int.add_zero]; omega
  | c :: d :: cs, hd, _, hl => by
    have h1 := valC_pos (l := d :: cs) hd.tail (by simp) (by simpa [List.getLast?_cons_cons] using hl)
    have h2 : 0 ≤ ((c.toNat : Int) - 48) * 10 ^ (d :: cs).length := Int.mul_nonneg (by have := hd c (by simp); omega) (by have := pow_pos10 (d :: cs).length; omega)
    rw [valC]; omega

/-- 'exact' of the program, from its parts on: the digits of both sides, how many are behind the point, the power. -/
def exactQ (ds : List UInt8) (fr : Nat) (p : Int) : Option Int :=
  if Lib.trimRightB (Lib.trimLeftB ds 48) 48 = [] then some 0
  else if p + (((Lib.trimLeftB ds 48).length : Int) - ((Lib.trimRightB (Lib.trimLeftB ds 48) 48).length : Int) - (fr : Int) + 6) < 0 ∨ 15 < p + (((Lib.trimLeftB ds 48).length : Int) - ((Lib.trimRightB (Lib.trimLeftB ds 48) 48).length : Int) - (fr : Int) + 6) then none
  else if 1000000000000000 < valC (Lib.trimRightB (Lib.trimLeftB ds 48) 48) * 10 ^ (p + (((Lib.trimLeftB ds 48).length : Int) - ((Lib.trimRightB (Lib.trimLeftB ds 48) 48).length : Int) - (fr : Int) + 6)).toNat then none
  else some (valC (Lib.trimRightB (Lib.trimLeftB ds 48) 48) * 10 ^ (p + (((Lib.trimLeftB ds 48).length : Int) - ((Lib.trimRightB (Lib.trimLeftB ds 48) 48).length : Int) - (fr : Int) + 6)).toNat)

theorem big_pow {v : Int} {E : Nat} (hv : 1 ≤ v) (hE : 15 < E) : 1000000000000000 < v * 10 ^ E := by
  have h16 : (10 : Int) ^ 16 ≤ 10 ^ E := by
    have : (10 : Nat) ^ 16 ≤ 10 ^ E := Nat.pow_le_pow_right (by omega) (by omega)
    exact_mod_cast this
  have := Int.mul_le_mul_of_nonneg_right hv (show (0 : Int) ≤ 10 ^ E by omega)
  omega

theorem exactQ_R (wh fr : List UInt8) (p : Int) (hd : DigL (wh ++ fr)) : exactQ (wh ++ fr) fr.length p = exactR (wh ++ fr) ((wh.length : Int) + p) := by
  rw [exactR_trim _ _ hd, exactQ]
  obtain ⟨z1, e1, _, _⟩ := left_zeros (wh ++ fr)
  obtain ⟨z2, e2, _, h3⟩ := right_zeros (Lib.trimLeftB (wh ++ fr) 48)
  have hl : ((wh ++ fr).length : Int) = (wh.length : Int) + (fr.length : Int) := by simp
  have hdC : DigL (Lib.trimRightB (Lib.trimLeftB (wh ++ fr) 48) 48) := fun c hc => hd c (by rw [e1]; exact List.mem_append_right _ (by rw [e2]; exact List.mem_append_left _ hc))
  generalize Lib.trimRightB (Lib.trimLeftB (wh ++ fr) 48) 48 = C at *
  generalize Lib.trimLeftB (wh ++ fr) 48 = D at *
  rw [hl]
  by_cases hC : C = []
  · rw [if_pos hC, if_pos hC]
  · rw [if_neg hC, if_neg hC]
    have hv := valC_pos hdC hC h3
    obtain ⟨E, hE⟩ : ∃ E : Int, E = p + ((D.length : Int) - (C.length : Int) - (fr.length : Int) + 6) := ⟨_, rfl⟩
    rw [show (wh.length : Int) + p - ((wh.length : Int) + (fr.length : Int)) + (D.length : Int) - (C.length : Int) + 6 = E by omega, ← hE]
    by_cases h15 : 15 < E
    · rw [if_pos (.inr h15), if_neg]
      have := big_pow (v := valC C) (E := E.toNat) hv (by omega)
      omega
    · by_cases h0 : E < 0
      · rw [if_pos (.inl h0), if_neg (by omega)]
      · rw [if_neg (by omega)]
        by_cases hb : 1000000000000000 < valC C * 10 ^ E.toNat
        · rw [if_pos hb, if_neg (by omega)]
        · rw [if_neg hb, if_pos (by omega)]

/-- A power beyond all digits says the same as another such. -/
theorem exactR_far (ds : List UInt8) (a b : Int) (hd : DigL ds) (hl : ds.length ≤ 50000) (h : (90000 ≤ a ∧ 90000 ≤ b) ∨ (a ≤ -90000 ∧ b ≤ -90000)) : exactR ds a = exactR ds b := by
  rw [exactR_trim _ _ hd, exactR_trim _ _ hd]
  obtain ⟨z1, e1, _, _⟩ := left_zeros ds
  obtain ⟨z2, e2, _, h3⟩ := right_zeros (Lib.trimLeftB ds 48)
  have hdC : DigL (Lib.trimRightB (Lib.trimLeftB ds 48) 48) := fun c hc => hd c (by rw [e1]; exact List.mem_append_right _ (by rw [e2]; exact List.mem_append_left _ hc))
  have l1 : ds.length = z1.length + (Lib.trimLeftB ds 48).length := by
    have := congrArg List.length e1
    rwa [List.length_append] at this
  have l2 : (Lib.trimLeftB ds 48).length = (Lib.trimRightB (Lib.trimLeftB ds 48) 48).length + z2.length := by
    have := congrArg List.length e2
    rwa [List.length_append] at this
  generalize Lib.trimRightB (Lib.trimLeftB ds 48) 48 = C at *
  generalize Lib.trimLeftB ds 48 = D at *
  by_cases hC : C = []
  · rw [if_pos hC, if_pos hC]
  · rw [if_neg hC, if_neg hC]
    have hv := valC_pos hdC hC h3
    have none_of : ∀ x : Int, (90000 ≤ x ∨ x ≤ -90000) → ¬ (0 ≤ x - (ds.length : Int) + (D.length : Int) - (C.length : Int) + 6 ∧ valC C * 10 ^ (x - (ds.length : Int) + (D.length : Int) - (C.length : Int) + 6).toNat ≤ 1000000000000000) := by
      intro x hx hh
      have := big_pow (v := valC C) (E := (x - (ds.length : Int) + (D.length : Int) - (C.length : Int) + 6).toNat) hv (by omega)
      omega
    rw [if_neg (none_of a (by omega)), if_neg (none_of b (by omega))]

/-- With either power. -/
theorem exact_both (wh fr l : List UInt8) (neg : Bool) (hd : DigL (wh ++ fr)) (hp : DigL l) (hl : (wh ++ fr).length ≤ 5000) :
    exactQ (wh ++ fr) fr.length (if neg then - powP l 0 else powP l 0) = exactR (wh ++ fr) ((wh.length : Int) + (if neg then - powF l 0 else powF l 0)) := by
  rw [exactQ_R wh fr _ hd]
  have hwl : wh.length ≤ 5000 := by rw [List.length_append] at hl; omega
  rcases pow_two_ l 0 0 hp (by omega) (by omega) (by omega) (.inl rfl) with h | h
  · rw [h]
  · apply exactR_far _ _ _ hd (by omega)
    cases neg <;> simp <;> omega

end Go.Proofs.YtjaoocincdoaaaaGreatDoor

namespace Go.Proofs.YtjaoocincdoaaaaGreatDoor
open Go.RowKit J

set_option linter.unusedVariables false

theorem idxAny_none : ∀ {l chars : List UInt8}, (∀ c ∈ l, chars.contains c = false) → Lib.indexAny l chars = -1
  | [], _, _ => rfl
  | b :: l, chars, h => by
    rw [Lib.indexAny, if_neg (by rw [h b (by simp)]; simp), idxAny_none (fun c hc => h c (by simp [hc]))]; rfl
theorem idxAny_at : ∀ {l : List UInt8} {e : UInt8} {r chars : List UInt8}, (∀ c ∈ l, chars.contains c = false) → chars.contains e = true → Lib.indexAny (l ++ e :: r) chars = (l.length : Int)
  | [], e, r, chars, _, he => by rw [List.nil_append, Lib.indexAny, if_pos he]; rfl
  | b :: l, e, r, chars, h, he => by
    have ih := idxAny_at (l := l) (e := e) (r := r) (chars := chars) (fun c hc => h c (by simp [hc])) he
    rw [List.cons_append, Lib.indexAny, if_neg (by rw [h b (by simp)]; simp), ih, if_neg (by simp)]
    simp
theorem idxB_none : ∀ {l : List UInt8} {x : UInt8}, (∀ c ∈ l, c ≠ x) → Lib.indexByte l x = -1
  | [], _, _ => rfl
  | b :: l, x, h => by
    rw [Lib.indexByte, if_neg (by simpa using h b (by simp)), idxB_none (fun c hc => h c (by simp [hc]))]; rfl
theorem idxB_at : ∀ {l : List UInt8} {x : UInt8} {r : List UInt8}, (∀ c ∈ l, c ≠ x) → Lib.indexByte (l ++ x :: r) x = (l.length : Int)
  | [], x, r, _ => by rw [List.nil_append, Lib.indexByte, if_pos (by simp)]; rfl
  | b :: l, x, r, h => by
    have ih := idxB_at (l := l) (x := x) (r := r) (fun c hc => h c (by simp [hc]))
    rw [List.cons_append, Lib.indexByte, if_neg (by simpa using h b (by simp)), ih, if_neg (by simp)]
    simp
theorem cut_none {l : List UInt8} {x : UInt8} (h : ∀ c ∈ l, c ≠ x) : Lib.cut l [x] = (l, [], false) := by
  rw [Lib.cut, Lib.index_one, idxB_none h]; rfl
theorem cut_at {l r : List UInt8} {x : UInt8} (h : ∀ c ∈ l, c ≠ x) : Lib.cut (l ++ x :: r) [x] = (l, r, true) := by
  rw [Lib.cut, Lib.index_one, idxB_at h, if_pos (by omega)]
  simp

/-- What of the world the library's functions ask for. -/
def Env (w : World) : Prop := Tabs w ∧ (∃ m, w.cell? ⟨8, 0, none⟩ = some (.int .i64 m)) ∧ ∃ te pe, w.cell? ⟨13, 0, none⟩ = some (.iface te pe)
theorem Env.below {w w' : World} (h : Env w) (hb : Below w.heap.size w w') : Env w' := by
  obtain ⟨h1, ⟨m, h2⟩, te, pe, h3⟩ := h
  refine ⟨⟨fun c hc => cell_keep (h1.1 c hc) (hb.block _ (cell_lt (h1.1 c hc))), fun i hi => ⟨cell_keep (h1.2 i hi).1 (hb.block _ (cell_lt (h1.2 i hi).1)), cell_keep (h1.2 i hi).2 (hb.block _ (cell_lt (h1.2 i hi).2))⟩⟩, ⟨m, cell_keep h2 (hb.block _ (cell_lt h2))⟩, te, pe, cell_keep h3 (hb.block _ (cell_lt h3))⟩
theorem Env.but {w w' : World} {b : Nat} (h : Env w) (hb : But b w w') (h12 : 16 ≤ b) : Env w' := by
  obtain ⟨h1, ⟨m, h2⟩, te, pe, h3⟩ := h
  exact ⟨tabs_but h1 hb h12, ⟨m, cell_keep h2 (hb.block _ (cell_lt h2) (by simp; omega))⟩, te, pe, cell_keep h3 (hb.block _ (cell_lt h3) (by simp; omega))⟩
theorem Env.drewN {w : World} (h : Env w) (n : Nat) : Env (w.drewN n) := h

theorem bs_list (l : List UInt8) : (bs l).data.toList = l := by simp [bs]
theorem bs_of (t : ByteArray) : bs t.data.toList = t := by simp [bs]
theorem bs_ext (l : List UInt8) (a b : Nat) : (bs l).extract a b = bs ((l.take b).drop a) := by
  apply ByteArray.ext
  rw [ByteArray.data_extract]
  simp [bs, List.extract_toArray, List.drop_take]

/-- A numeral without its sign: digits, maybe a point and digits, maybe an e, a sign, digits. -/
def manL (wh fr : List UInt8) (dot : Bool) : List UInt8 := if dot then wh ++ 46 :: fr else wh
def signL (sg : Nat) : List UInt8 := if sg = 0 then [] else if sg = 1 then [45] else [43]

theorem xcut (l : List UInt8) (w : World) : Calls Tryz.prog 66 #[.string (bs l), .string ⟨#[45]⟩] w fun e w' => e = .returned (.tuple #[.string (bs (Lib.trimPrefix l [45])), .bool (Lib.hasPrefix l [45])]) ∧ w = w' := by
  refine (Tryz.strings_CutPrefix _ _ w).mono ?_
  rintro e w' ⟨rfl, rfl⟩
  rw [bs_list]; exact ⟨rfl, rfl⟩
theorem xany (l : List UInt8) (i : Int) (w : World) (hl : l.length ≤ 100000) (ha : ∀ c ∈ l, c.toNat < 128) (hi : Lib.indexAny l [101, 69] = i) : Calls Tryz.prog 67 #[.string (bs l), .string ⟨#[101, 69]⟩] w fun e w' => e = .returned (.int .i64 i) ∧ Below w.heap.size w w' := by
  refine (Tryz.strings_IndexAny_laid (bs l) ⟨#[101, 69]⟩ w (by rw [bs_size]; omega) (by decide) ?_ ?_).mono ?_
  · intro j c hj; rw [bs_list] at hj; exact ha c (List.mem_of_getElem? hj)
  · intro j c hj
    have hm : c ∈ ([101, 69] : List UInt8) := List.mem_of_getElem? hj
    simp at hm; rcases hm with rfl | rfl <;> decide
  · rintro e w' ⟨rfl, h⟩
    rw [bs_list]; exact ⟨by rw [← hi], h⟩
theorem xpoint (l : List UInt8) (w : World) (hE : Env w) (hl : l.length ≤ 100000) : Calls Tryz.prog 68 #[.string (bs l), .string ⟨#[46]⟩] w fun e w' => e = .returned (.tuple #[.string (bs (Lib.cut l [46]).1), .string (bs (Lib.cut l [46]).2.1), .bool (Lib.cut l [46]).2.2]) ∧ ∃ n, w' = w.drewN n := by
  obtain ⟨_, ⟨m, h2⟩, _⟩ := hE
  refine (Tryz.strings_Cut (bs l) ⟨#[46]⟩ m w (by rw [bs_size]; omega) h2).mono ?_
  rintro e w' ⟨rfl, h⟩
  rw [bs_list]; exact ⟨rfl, h⟩
theorem xleft (l : List UInt8) (w : World) : Calls Tryz.prog 69 #[.string (bs l), .string ⟨#[48]⟩] w fun e w' => e = .returned (.string (bs (Lib.trimLeftB l 48))) ∧ w = w' := by
  refine (Tryz.strings_TrimLeft_one (bs l) 48 (by decide) w).mono ?_
  rintro e w' ⟨rfl, rfl⟩
  rw [bs_list]; exact ⟨rfl, rfl⟩
theorem xright (l : List UInt8) (w : World) (hl : l.length ≤ 100000) : Calls Tryz.prog 50 #[.string (bs l), .string ⟨#[48]⟩] w fun e w' => e = .returned (.string (bs (Lib.trimRightB l 48))) ∧ w = w' := by
  refine (Tryz.strings_TrimRight_one (bs l) 48 (by decide) w (by rw [bs_size]; omega)).mono ?_
  rintro e w' ⟨rfl, rfl⟩
  rw [bs_list]; exact ⟨rfl, rfl⟩
theorem xrep (n : Int) (w : World) (h0 : 0 ≤ n) (h1 : n ≤ 15) : Calls Tryz.prog 72 #[.string ⟨#[48]⟩, .int .i64 n] w fun e w' => e = .returned (.string (bs (Lib.repeatL [48] n.toNat))) ∧ Below w.heap.size w w' := by
  obtain ⟨m, rfl⟩ : ∃ m : Nat, n = (m : Int) := ⟨n.toNat, by omega⟩
  refine (Tryz.strings_Repeat ⟨#[48]⟩ m w (by omega) (by show 1 * m ≤ _; omega)).mono ?_
  rintro e w' ⟨rfl, h⟩
  exact ⟨by simp; rfl, h⟩
theorem xparse_ok (l : List UInt8) (w : World) (hd : DigL l) (hne : l ≠ []) (hl : l.length ≤ 100000) (h : valC l < 9223372036854775808) : Calls Tryz.prog 71 #[.string (bs l), .int .i64 10, .int .i64 64] w fun e w' => e = .returned (.tuple #[.int .i64 (valC l), .nilIface]) ∧ Below w.heap.size w w' := by
  refine (Tryz.strconv_ParseInt_10_at64_ok (bs l) (by rw [bs_size]; omega) (valC l) (by rw [bs_list, parseI hd hne, if_pos h]) w).mono ?_
  rintro e w' ⟨rfl, h⟩
  refine ⟨rfl, ?_⟩
  rcases h with rfl | ⟨t, rfl⟩
  · exact Below.refl _ _
  · exact Lib.bytesWorld_below _ _ _
theorem xparse_no (l : List UInt8) (w : World) (hE : Env w) (hd : DigL l) (hne : l ≠ []) (hl : l.length ≤ 100000) (h : ¬ valC l < 9223372036854775808) : Calls Tryz.prog 71 #[.string (bs l), .int .i64 10, .int .i64 64] w fun e w' => (∃ v N, e = .returned (.tuple #[.int .i64 v, .iface 185 (.pointer (some ⟨N, 0, none⟩))])) ∧ Below w.heap.size w w' := by
  obtain ⟨_, _, te, pe, h3⟩ := hE
  refine (Tryz.strconv_ParseInt_10_at64_range (bs l) (by rw [bs_size]; omega) (by rw [bs_list, parseI hd hne, if_neg h]) _ w h3 (.inr ⟨te, pe, rfl⟩)).mono ?_
  rintro e w' ⟨N, rfl, _, _, h⟩
  exact ⟨⟨_, N, rfl⟩, h⟩

end Go.Proofs.YtjaoocincdoaaaaGreatDoor

namespace Go.Proofs.YtjaoocincdoaaaaGreatDoor
open Go.RowKit J

set_option linter.unusedVariables false

theorem DigL.append {a b : List UInt8} (h : DigL a) (k : DigL b) : DigL (a ++ b) := fun c hc => by
  rcases List.mem_append.1 hc with hc | hc
  · exact h c hc
  · exact k c hc
theorem dig_ne {l : List UInt8} (h : DigL l) {x : UInt8} (hx : x.toNat < 48 ∨ 57 < x.toNat) : ∀ c ∈ l, c ≠ x := fun c hc e => by
  have := h c hc; rw [e] at this; omega
theorem man_no {wh fr : List UInt8} {dot : Bool} (h1 : DigL wh) (h2 : DigL fr) : ∀ c ∈ manL wh fr dot, ([101, 69] : List UInt8).contains c = false ∧ c.toNat < 128 := by
  have hd : ∀ c : UInt8, (48 ≤ c.toNat ∧ c.toNat ≤ 57) ∨ c = 46 → ([101, 69] : List UInt8).contains c = false ∧ c.toNat < 128 := by
    intro c h
    rcases h with h | rfl
    · have e1 : c ≠ 101 := fun e => by rw [e] at h; exact absurd h (by decide)
      have e2 : c ≠ 69 := fun e => by rw [e] at h; exact absurd h (by decide)
      exact ⟨by simp [e1, e2], by omega⟩
    · decide
  intro c hc
  unfold manL at hc
  split at hc
  · rw [List.mem_append, List.mem_cons] at hc
    rcases hc with hc | hc | hc
    · exact hd c (.inl (h1 c hc))
    · exact hd c (.inr hc)
    · exact hd c (.inl (h2 c hc))
  · exact hd c (.inl (h1 c hc))
theorem man_cut {wh fr : List UInt8} {dot : Bool} (h1 : DigL wh) (hf : dot = false → fr = []) : (Lib.cut (manL wh fr dot) [46]).1 = wh ∧ (Lib.cut (manL wh fr dot) [46]).2.1 = fr := by
  unfold manL
  cases dot
  · rw [if_neg (by simp), cut_none (dig_ne h1 (by decide)), hf rfl]; exact ⟨rfl, rfl⟩
  · rw [if_pos rfl, cut_at (dig_ne h1 (by decide))]; exact ⟨rfl, rfl⟩

/-- The pair that the program's 'exact' hands back. -/
def exactPV (neg : Bool) : Option Int → Value
  | some n => .tuple #[.int .i64 (if neg then -n else n), .bool true]
  | none => .tuple #[.int .i64 0, .bool false]

/-- 'exact' behind the cuts: from the whole, the fraction and the exponent on. -/
theorem pow_list (sg : Nat) (el : List UInt8) : bs (signL sg ++ el) = powSg sg (bs el) := by
  unfold signL powSg
  rw [bs_list]
  split
  · rfl
  · split <;> rfl

theorem digs_bs {l : List UInt8} (h : DigL l) : Digs (bs l) := fun i hi => by
  have hm : (bs l)[i] ∈ (bs l).data.toList := by rw [List.mem_iff_getElem]; exact ⟨i, by simpa using hi, rfl⟩
  rw [bs_list] at hm
  exact h _ hm

/-- A numeral. -/
def numL (neg : Bool) (wh fr : List UInt8) (dot ex : Bool) (ec : UInt8) (sg : Nat) (el : List UInt8) : List UInt8 :=
  (if neg then [45] else []) ++ (manL wh fr dot ++ (if ex then ec :: (signL sg ++ el) else []))

theorem num_cut {neg : Bool} {wh U : List UInt8} (h1 : DigL wh) (hne : wh ≠ []) (t : List UInt8) (hU : U = wh ++ t) : Lib.trimPrefix ((if neg then [45] else []) ++ U) [45] = U ∧ Lib.hasPrefix ((if neg then [45] else []) ++ U) [45] = neg := by
  cases neg
  · simp only [Bool.false_eq_true, if_false, List.nil_append]
    apply pre_no
    intro x hx
    rw [hU] at hx
    cases wh with
    | nil => exact absurd rfl hne
    | cons a a2 =>
      simp only [List.cons_append, List.head?_cons, Option.some.injEq] at hx
      rw [← hx]; exact dig_ne h1 (by decide) a (by simp)
  · simp only [if_true, List.cons_append, List.nil_append]
    exact pre_yes 45 U

set_option maxHeartbeats 4000000 in
theorem pexact_any (neg : Bool) (wh fr : List UInt8) (dot ex : Bool) (ec : UInt8) (sg : Nat) (el : List UInt8) (w : World) (hE : Env w) (h1 : DigL wh) (h2 : DigL fr) (h3 : DigL el) (hne : wh ≠ []) (hf : dot = false → fr = []) (hx : ex = false → sg = 0 ∧ el = []) (hec : ec = 101 ∨ ec = 69)
    (hl : wh.length + fr.length + el.length ≤ 1000) :
    Calls Tryz.prog 44 #[.string (bs (numL neg wh fr dot ex ec sg el))] w fun e w' => e = .returned (exactPV neg (exactQ (wh ++ fr) fr.length (if sg = 1 then - powP el 0 else powP el 0))) ∧ Below w.heap.size w w' := by
  obtain ⟨U, hU⟩ : ∃ U, U = manL wh fr dot ++ (if ex then ec :: (signL sg ++ el) else []) := ⟨_, rfl⟩
  obtain ⟨T, hT⟩ : ∃ T, T = numL neg wh fr dot ex ec sg el := ⟨_, rfl⟩
  have hcut : Lib.trimPrefix T [45] = U ∧ Lib.hasPrefix T [45] = neg := by
    rw [hT, numL, ← hU]
    refine num_cut h1 hne ((if dot then 46 :: fr else []) ++ (if ex then ec :: (signL sg ++ el) else [])) ?_
    rw [hU, manL]; cases dot <;> simp
  have hml : (manL wh fr dot).length ≤ wh.length + fr.length + 1 := by
    unfold manL; split
    · simp; omega
    · omega
  have hUl : U.length ≤ 1010 := by
    rw [hU, List.length_append]
    have : (signL sg).length ≤ 1 := by
      unfold signL; split
      · simp
      · split <;> simp
    cases ex <;> simp <;> omega
  have hUa : ∀ c ∈ U, c.toNat < 128 := by
    intro c hc
    rw [hU, List.mem_append] at hc
    rcases hc with hc | hc
    · exact (man_no h1 h2 c hc).2
    · split at hc
      · rw [List.mem_cons, List.mem_append] at hc
        rcases hc with rfl | hc | hc
        · rcases hec with rfl | rfl <;> decide
        · unfold signL at hc; repeat' split at hc
          all_goals (simp at hc; try (rw [hc]; decide))
        · have := h3 c hc; omega
      · simp at hc
  have hidx : Lib.indexAny U [101, 69] = if ex then ((manL wh fr dot).length : Int) else -1 := by
    rw [hU]
    cases ex
    · simp only [Bool.false_eq_true, if_false, List.append_nil]
      exact idxAny_none (fun c hc => (man_no h1 h2 c hc).1)
    · simp only [if_true]
      exact idxAny_at (fun c hc => (man_no h1 h2 c hc).1) (by rcases hec with rfl | rfl <;> decide)
  have HCUT : Hid (Lib.trimPrefix T [45] = U ∧ Lib.hasPrefix T [45] = neg) := hcut
  have HUA : Hid (∀ c ∈ U, c.toNat < 128) := hUa
  have HIDX : Hid (Lib.indexAny U [101, 69] = if ex then ((manL wh fr dot).length : Int) else -1) := hidx
  have HMC : Hid ((Lib.cut (manL wh fr dot) [46]).1 = wh ∧ (Lib.cut (manL wh fr dot) [46]).2.1 = fr) := man_cut h1 hf
  have HENV : Hid (Env w) := hE
  have HU : Hid (U = manL wh fr dot ++ (if ex then ec :: (signL sg ++ el) else [])) := hU
  have H3 : Hid (DigL el) := h3
  have HWF : Hid (DigL (wh ++ fr)) := h1.append h2
  obtain ⟨M, hM⟩ : ∃ M, M = manL wh fr dot := ⟨_, rfl⟩
  have HM : Hid (manL wh fr dot = M) := hM.symm
  have HMl : Hid (M.length ≤ 1001) := by show _ ≤ _; rw [hM]; omega
  have sz1 : (bs wh).size ≤ 1000 := by rw [bs_size]; omega
  have sz2 : (bs fr).size ≤ 1000 := by rw [bs_size]; omega
  obtain ⟨p, hp⟩ : ∃ p : Int, p = if sg = 1 then - powP el 0 else powP el 0 := ⟨_, rfl⟩
  have HPW : Hid ((if sg = 1 then - powP el 0 else powP el 0) = p) := hp.symm
  have hpb : -1099511627776 ≤ p ∧ p ≤ 1099511627776 := by
    have := powP_bd el 0 (by omega) (by omega) h3
    rw [hp]; split <;> omega
  obtain ⟨hp1, hp2⟩ := hpb
  rw [← hT, ← hp]
  clear hp hcut hUa hidx hE hT h1 h2 h3 hne hec hf hM hU hml
  cases ex
  · obtain ⟨rfl, rfl⟩ := hx rfl
    have HUM : Hid (U = M) := by show _ = _; rw [HU.out, HM.out]; simp
    go_enter Tryz.func44, Tryz.ntmps44
    go_wp2_with fail
    refine (xcut T _).mono ?_
    rintro e w1 ⟨rfl, rfl⟩
    rw [HCUT.out.1, HCUT.out.2]
    go_wp2_with fail
    refine (xany U (-1) _ (by omega) HUA.out HIDX.out).mono ?_
    rintro e w1 ⟨rfl, hb1⟩
    have HENV1 : Hid (Env w1) := HENV.out.below hb1
    rw [HUM.out]
    go_wp2_with fail
    refine (xpoint M _ HENV1.out (by have := HMl.out; omega)).mono ?_
    rintro e w2 ⟨rfl, n2, rfl⟩
    rw [show (Lib.cut M [46]).1 = wh by rw [← HM.out]; exact HMC.out.1, show (Lib.cut M [46]).2.1 = fr by rw [← HM.out]; exact HMC.out.2]
    go_wp2_with fail
    rw [bs_append]
    refine (xleft (wh ++ fr) _).mono ?_
    rintro e w3 ⟨rfl, rfl⟩
    obtain ⟨D, hD⟩ : ∃ D, D = Lib.trimLeftB (wh ++ fr) 48 := ⟨_, rfl⟩
    have HDD : Hid (Lib.trimLeftB (wh ++ fr) 48 = D) := hD.symm
    rw [← hD]
    clear hD
    have HDl : Hid (D.length ≤ 1000) := by
      show _ ≤ _
      obtain ⟨z, e, _, _⟩ := left_zeros (wh ++ fr)
      have := congrArg List.length e
      rw [HDD.out, List.length_append, List.length_append] at this
      omega
    go_wp2_with fail
    refine (xright D _ (by have := HDl.out; omega)).mono ?_
    rintro e w3 ⟨rfl, rfl⟩
    obtain ⟨C, hC⟩ : ∃ C, C = Lib.trimRightB D 48 := ⟨_, rfl⟩
    have HCC : Hid (Lib.trimRightB D 48 = C) := hC.symm
    rw [← hC]
    clear hC
    have hCl : C.length ≤ D.length := by
      obtain ⟨z, e, _, _⟩ := right_zeros D
      have := congrArg List.length e
      rw [HCC.out, List.length_append] at this
      omega
    have hDl2 : D.length ≤ 1000 := HDl.out
    have szD : (bs D).size = D.length := bs_size D
    have szC : (bs C).size = C.length := bs_size C
    have szF : (bs fr).size = fr.length := bs_size fr
    have HCD : Hid (DigL C) := by
      show DigL C
      obtain ⟨z1, e1, _, _⟩ := left_zeros (wh ++ fr)
      obtain ⟨z2, e2, _, _⟩ := right_zeros D
      rw [HDD.out] at e1
      rw [HCC.out] at e2
      exact fun c hc => HWF.out c (by rw [e1]; exact List.mem_append_right _ (by rw [e2]; exact List.mem_append_left _ hc))
    have hB2 : Below w.heap.size w (w1.drewN n2) := ⟨hb1.os, hb1.tape, hb1.output, hb1.size, hb1.block⟩
    have HENV2 : Hid (Env (w1.drewN n2)) := HENV1.out
    clear hb1
    have HQ0 : Hid (exactQ (wh ++ fr) fr.length p = if C = [] then some 0 else if p + ((D.length : Int) - (C.length : Int) - (fr.length : Int) + 6) < 0 ∨ 15 < p + ((D.length : Int) - (C.length : Int) - (fr.length : Int) + 6) then none else if 1000000000000000 < valC C * 10 ^ (p + ((D.length : Int) - (C.length : Int) - (fr.length : Int) + 6)).toNat then none else some (valC C * 10 ^ (p + ((D.length : Int) - (C.length : Int) - (fr.length : Int) + 6)).toNat)) := by
      show _ = _
      rw [exactQ, HDD.out, HCC.out]
    by_cases hCe : C = []
    · have hemp : (bs C).toList.isEmpty = true := by rw [ByteArray.toList_eq, bs_list, hCe]; rfl
      have HQ : Hid (exactQ (wh ++ fr) fr.length p = some 0) := by show _ = _; rw [HQ0.out, if_pos hCe]
      clear hCe
      go_wp2_with fail
      go_ret2
      exact ⟨by rw [HQ.out]; cases neg <;> rfl, hB2⟩
    · have hemp : (bs C).toList.isEmpty = false := by
        rw [ByteArray.toList_eq, bs_list]; cases C with
        | nil => exact absurd rfl hCe
        | cons _ _ => rfl
      obtain ⟨E, hEe⟩ : ∃ E : Int, E = p + ((D.length : Int) - (C.length : Int) - (fr.length : Int) + 6) := ⟨_, rfl⟩
      have HEE : Hid (p + ((D.length : Int) - (C.length : Int) - (fr.length : Int) + 6) = E) := hEe.symm
      have HQ : Hid (exactQ (wh ++ fr) fr.length p = if E < 0 ∨ 15 < E then none else if 1000000000000000 < valC C * 10 ^ E.toNat then none else some (valC C * 10 ^ E.toNat)) := by show _ = _; rw [HQ0.out, if_neg hCe, HEE.out]
      have HCE : Hid (C ≠ []) := hCe
      have HVP : Hid (0 ≤ valC C) := valC_nonneg HCD.out
      clear hCe hEe
      go_wp2_with fail
      refine (power_any 0 ⟨#[]⟩ _ digs_none (by decide)).mono ?_
      rintro e w4 ⟨rfl, rfl⟩
      rw [HPW.out]
      by_cases hbad : p + ((D.length : Int) - (C.length : Int) - (fr.length : Int) + 6) < 0 ∨ 15 < p + ((D.length : Int) - (C.length : Int) - (fr.length : Int) + 6)
      · have HQ2 : Hid (exactQ (wh ++ fr) fr.length p = none) := by show _ = _; rw [HQ.out, ← HEE.out, if_pos hbad]
        rcases (show p + ((D.length : Int) - (C.length : Int) - (fr.length : Int) + 6) < 0 ∨ (0 ≤ p + ((D.length : Int) - (C.length : Int) - (fr.length : Int) + 6) ∧ 15 < p + ((D.length : Int) - (C.length : Int) - (fr.length : Int) + 6)) from by omega) with hq | ⟨hq, hq2⟩
        all_goals
          go_wp2_with fail
          go_ret2
          exact ⟨by rw [HQ2.out]; rfl, hB2⟩
      · obtain ⟨q1, q2⟩ : 0 ≤ p + ((D.length : Int) - (C.length : Int) - (fr.length : Int) + 6) ∧ p + ((D.length : Int) - (C.length : Int) - (fr.length : Int) + 6) ≤ 15 := by omega
        clear hbad
        go_wp2_with fail
        refine (xrep _ _ q1 q2).mono ?_
        rintro e w5 ⟨rfl, hb5⟩
        rw [HEE.out]
        rw [HEE.out] at q1 q2
        obtain ⟨Z, hZ⟩ : ∃ Z, Z = Lib.repeatL [48] E.toNat := ⟨_, rfl⟩
        have hZl : Z.length ≤ 15 := by rw [hZ, (rep_zeros _).2]; omega
        have szZ : (bs Z).size = Z.length := bs_size Z
        have HZV : Hid (valC (C ++ Z) = valC C * 10 ^ E.toNat) := by show _ = _; rw [hZ]; exact valC_rep C _
        have HZD : Hid (DigL (C ++ Z)) := HCD.out.append (fun c hc => by rw [hZ] at hc; rw [(rep_zeros _).1 c hc]; decide)
        have HZN : Hid (C ++ Z ≠ []) := fun h => HCE.out (List.append_eq_nil_iff.1 h).1
        have HQ2 : Hid (exactQ (wh ++ fr) fr.length p = if 1000000000000000 < valC (C ++ Z) then none else some (valC (C ++ Z))) := by show _ = _; rw [HQ.out, if_neg (by omega), HZV.out]
        have HV0 : Hid (0 ≤ valC (C ++ Z)) := valC_nonneg HZD.out
        rw [← hZ]
        have hB5 : Below w.heap.size w w5 := hB2.trans (hb5.mono hB2.size)
        have HENV5 : Hid (Env w5) := HENV2.out.below hb5
        clear hZ hb5
        go_wp2_with fail
        rw [bs_append]
        obtain ⟨V, hV⟩ : ∃ V : Int, V = valC (C ++ Z) := ⟨_, rfl⟩
        by_cases h63 : valC (C ++ Z) < 9223372036854775808
        · refine (xparse_ok (C ++ Z) _ HZD.out HZN.out (by rw [List.length_append]; omega) h63).mono ?_
          rintro e w6 ⟨rfl, hb6⟩
          have hB6 : Below w.heap.size w w6 := hB5.trans (hb6.mono hB5.size)
          have hV0 : 0 ≤ V := by rw [hV]; exact HV0.out
          have HQ3 : Hid (exactQ (wh ++ fr) fr.length p = if 1000000000000000 < V then none else some V) := by show _ = _; rw [hV]; exact HQ2.out
          rw [← hV] at h63 ⊢
          clear hV hb6
          by_cases hlim : 1000000000000000 < V
          · have HQ4 : Hid (exactQ (wh ++ fr) fr.length p = none) := by show _ = _; rw [HQ3.out, if_pos hlim]
            go_wp2_with fail
            go_ret2
            exact ⟨by rw [HQ4.out]; rfl, hB6⟩
          · have HQ4 : Hid (exactQ (wh ++ fr) fr.length p = some V) := by show _ = _; rw [HQ3.out, if_neg hlim]
            cases neg
            · go_wp2_with fail
              go_ret2
              exact ⟨by rw [HQ4.out]; rfl, hB6⟩
            · go_wp2_with fail
              go_ret2
              exact ⟨by rw [HQ4.out]; rfl, hB6⟩
        · have HQ4 : Hid (exactQ (wh ++ fr) fr.length p = none) := by show _ = _; rw [HQ2.out, if_pos (by omega)]
          refine (xparse_no (C ++ Z) _ HENV5.out HZD.out HZN.out (by rw [List.length_append]; omega) h63).mono ?_
          rintro e w6 ⟨⟨v, N, rfl⟩, hb6⟩
          have hB6 : Below w.heap.size w w6 := hB5.trans (hb6.mono hB5.size)
          clear hb6 h63 hV
          go_wp2_with fail
          go_ret2
          exact ⟨by rw [HQ4.out]; rfl, hB6⟩
  · have HU2 : Hid (U = M ++ ec :: (signL sg ++ el)) := by show _ = _; rw [HU.out, HM.out]; rfl
    have HI2 : Hid (Lib.indexAny U [101, 69] = (M.length : Int)) := by show _ = _; rw [HIDX.out, HM.out]; rfl
    have hMU : (M.length : Int) + 1 ≤ ((bs U).size : Int) := by rw [bs_size, HU2.out]; simp; omega
    have szU : (bs U).size ≤ 1010 := by rw [bs_size]; exact hUl
    have HX1 : Hid ((bs U).extract 0 M.length = bs M) := by show _ = _; rw [bs_ext, HU2.out]; simp
    have HX2 : Hid ((bs U).extract (M.length + 1) (bs U).size = powSg sg (bs el)) := by
      show _ = _
      rw [bs_ext, bs_size, List.take_length, HU2.out, ← pow_list]
      simp [List.drop_append, List.drop_eq_nil_of_le (show M.length ≤ M.length + 1 by omega)]
    have hell : el.length ≤ 1000 := by omega
    go_enter Tryz.func44, Tryz.ntmps44
    go_wp2_with fail
    refine (xcut T _).mono ?_
    rintro e w1 ⟨rfl, rfl⟩
    rw [HCUT.out.1, HCUT.out.2]
    go_wp2_with fail
    refine (xany U M.length _ (by omega) HUA.out HI2.out).mono ?_
    rintro e w1 ⟨rfl, hb1⟩
    have HENV1 : Hid (Env w1) := HENV.out.below hb1
    go_wp2_with fail
    go_quiet (fail)
    go_wp2_with fail
    rw [HX1.out, HX2.out]
    generalize hx1 : w1.drewN nq = x1
    have hb1x : Below w.heap.size w x1 := by rw [← hx1]; exact ⟨hb1.os, hb1.tape, hb1.output, hb1.size, hb1.block⟩
    have HENVx : Hid (Env x1) := by show Env x1; rw [← hx1]; exact HENV1.out
    clear hx1 hb1 HENV1
    refine (xpoint M _ HENVx.out (by have := HMl.out; omega)).mono ?_
    rintro e w2 ⟨rfl, n2, rfl⟩
    rw [show (Lib.cut M [46]).1 = wh by rw [← HM.out]; exact HMC.out.1, show (Lib.cut M [46]).2.1 = fr by rw [← HM.out]; exact HMC.out.2]
    go_wp2_with fail
    rw [bs_append]
    refine (xleft (wh ++ fr) _).mono ?_
    rintro e w3 ⟨rfl, rfl⟩
    obtain ⟨D, hD⟩ : ∃ D, D = Lib.trimLeftB (wh ++ fr) 48 := ⟨_, rfl⟩
    have HDD : Hid (Lib.trimLeftB (wh ++ fr) 48 = D) := hD.symm
    rw [← hD]
    clear hD
    have HDl : Hid (D.length ≤ 1000) := by
      show _ ≤ _
      obtain ⟨z, e, _, _⟩ := left_zeros (wh ++ fr)
      have := congrArg List.length e
      rw [HDD.out, List.length_append, List.length_append] at this
      omega
    go_wp2_with fail
    refine (xright D _ (by have := HDl.out; omega)).mono ?_
    rintro e w3 ⟨rfl, rfl⟩
    obtain ⟨C, hC⟩ : ∃ C, C = Lib.trimRightB D 48 := ⟨_, rfl⟩
    have HCC : Hid (Lib.trimRightB D 48 = C) := hC.symm
    rw [← hC]
    clear hC
    have hCl : C.length ≤ D.length := by
      obtain ⟨z, e, _, _⟩ := right_zeros D
      have := congrArg List.length e
      rw [HCC.out, List.length_append] at this
      omega
    have hDl2 : D.length ≤ 1000 := HDl.out
    have szD : (bs D).size = D.length := bs_size D
    have szC : (bs C).size = C.length := bs_size C
    have szF : (bs fr).size = fr.length := bs_size fr
    have HCD : Hid (DigL C) := by
      show DigL C
      obtain ⟨z1, e1, _, _⟩ := left_zeros (wh ++ fr)
      obtain ⟨z2, e2, _, _⟩ := right_zeros D
      rw [HDD.out] at e1
      rw [HCC.out] at e2
      exact fun c hc => HWF.out c (by rw [e1]; exact List.mem_append_right _ (by rw [e2]; exact List.mem_append_left _ hc))
    have hB2 : Below w.heap.size w (x1.drewN n2) := ⟨hb1x.os, hb1x.tape, hb1x.output, hb1x.size, hb1x.block⟩
    have HENV2 : Hid (Env (x1.drewN n2)) := HENVx.out
    clear hb1x
    have HQ0 : Hid (exactQ (wh ++ fr) fr.length p = if C = [] then some 0 else if p + ((D.length : Int) - (C.length : Int) - (fr.length : Int) + 6) < 0 ∨ 15 < p + ((D.length : Int) - (C.length : Int) - (fr.length : Int) + 6) then none else if 1000000000000000 < valC C * 10 ^ (p + ((D.length : Int) - (C.length : Int) - (fr.length : Int) + 6)).toNat then none else some (valC C * 10 ^ (p + ((D.length : Int) - (C.length : Int) - (fr.length : Int) + 6)).toNat)) := by
      show _ = _
      rw [exactQ, HDD.out, HCC.out]
    by_cases hCe : C = []
    · have hemp : (bs C).toList.isEmpty = true := by rw [ByteArray.toList_eq, bs_list, hCe]; rfl
      have HQ : Hid (exactQ (wh ++ fr) fr.length p = some 0) := by show _ = _; rw [HQ0.out, if_pos hCe]
      clear hCe
      go_wp2_with fail
      go_ret2
      exact ⟨by rw [HQ.out]; cases neg <;> rfl, hB2⟩
    · have hemp : (bs C).toList.isEmpty = false := by
        rw [ByteArray.toList_eq, bs_list]; cases C with
        | nil => exact absurd rfl hCe
        | cons _ _ => rfl
      obtain ⟨E, hEe⟩ : ∃ E : Int, E = p + ((D.length : Int) - (C.length : Int) - (fr.length : Int) + 6) := ⟨_, rfl⟩
      have HEE : Hid (p + ((D.length : Int) - (C.length : Int) - (fr.length : Int) + 6) = E) := hEe.symm
      have HQ : Hid (exactQ (wh ++ fr) fr.length p = if E < 0 ∨ 15 < E then none else if 1000000000000000 < valC C * 10 ^ E.toNat then none else some (valC C * 10 ^ E.toNat)) := by show _ = _; rw [HQ0.out, if_neg hCe, HEE.out]
      have HCE : Hid (C ≠ []) := hCe
      have HVP : Hid (0 ≤ valC C) := valC_nonneg HCD.out
      clear hCe hEe
      go_wp2_with fail
      refine (power_any sg (bs el) _ (digs_bs H3.out) (by rw [bs_size]; omega)).mono ?_
      rintro e w4 ⟨rfl, rfl⟩
      rw [bs_list, HPW.out]
      by_cases hbad : p + ((D.length : Int) - (C.length : Int) - (fr.length : Int) + 6) < 0 ∨ 15 < p + ((D.length : Int) - (C.length : Int) - (fr.length : Int) + 6)
      · have HQ2 : Hid (exactQ (wh ++ fr) fr.length p = none) := by show _ = _; rw [HQ.out, ← HEE.out, if_pos hbad]
        rcases (show p + ((D.length : Int) - (C.length : Int) - (fr.length : Int) + 6) < 0 ∨ (0 ≤ p + ((D.length : Int) - (C.length : Int) - (fr.length : Int) + 6) ∧ 15 < p + ((D.length : Int) - (C.length : Int) - (fr.length : Int) + 6)) from by omega) with hq | ⟨hq, hq2⟩
        all_goals
          go_wp2_with fail
          go_ret2
          exact ⟨by rw [HQ2.out]; rfl, hB2⟩
      · obtain ⟨q1, q2⟩ : 0 ≤ p + ((D.length : Int) - (C.length : Int) - (fr.length : Int) + 6) ∧ p + ((D.length : Int) - (C.length : Int) - (fr.length : Int) + 6) ≤ 15 := by omega
        clear hbad
        go_wp2_with fail
        refine (xrep _ _ q1 q2).mono ?_
        rintro e w5 ⟨rfl, hb5⟩
        rw [HEE.out]
        rw [HEE.out] at q1 q2
        obtain ⟨Z, hZ⟩ : ∃ Z, Z = Lib.repeatL [48] E.toNat := ⟨_, rfl⟩
        have hZl : Z.length ≤ 15 := by rw [hZ, (rep_zeros _).2]; omega
        have szZ : (bs Z).size = Z.length := bs_size Z
        have HZV : Hid (valC (C ++ Z) = valC C * 10 ^ E.toNat) := by show _ = _; rw [hZ]; exact valC_rep C _
        have HZD : Hid (DigL (C ++ Z)) := HCD.out.append (fun c hc => by rw [hZ] at hc; rw [(rep_zeros _).1 c hc]; decide)
        have HZN : Hid (C ++ Z ≠ []) := fun h => HCE.out (List.append_eq_nil_iff.1 h).1
        have HQ2 : Hid (exactQ (wh ++ fr) fr.length p = if 1000000000000000 < valC (C ++ Z) then none else some (valC (C ++ Z))) := by show _ = _; rw [HQ.out, if_neg (by omega), HZV.out]
        have HV0 : Hid (0 ≤ valC (C ++ Z)) := valC_nonneg HZD.out
        rw [← hZ]
        have hB5 : Below w.heap.size w w5 := hB2.trans (hb5.mono hB2.size)
        have HENV5 : Hid (Env w5) := HENV2.out.below hb5
        clear hZ hb5
        go_wp2_with fail
        rw [bs_append]
        obtain ⟨V, hV⟩ : ∃ V : Int, V = valC (C ++ Z) := ⟨_, rfl⟩
        by_cases h63 : valC (C ++ Z) < 9223372036854775808
        · refine (xparse_ok (C ++ Z) _ HZD.out HZN.out (by rw [List.length_append]; omega) h63).mono ?_
          rintro e w6 ⟨rfl, hb6⟩
          have hB6 : Below w.heap.size w w6 := hB5.trans (hb6.mono hB5.size)
          have hV0 : 0 ≤ V := by rw [hV]; exact HV0.out
          have HQ3 : Hid (exactQ (wh ++ fr) fr.length p = if 1000000000000000 < V then none else some V) := by show _ = _; rw [hV]; exact HQ2.out
          rw [← hV] at h63 ⊢
          clear hV hb6
          by_cases hlim : 1000000000000000 < V
          · have HQ4 : Hid (exactQ (wh ++ fr) fr.length p = none) := by show _ = _; rw [HQ3.out, if_pos hlim]
            go_wp2_with fail
            go_ret2
            exact ⟨by rw [HQ4.out]; rfl, hB6⟩
          · have HQ4 : Hid (exactQ (wh ++ fr) fr.length p = some V) := by show _ = _; rw [HQ3.out, if_neg hlim]
            cases neg
            · go_wp2_with fail
              go_ret2
              exact ⟨by rw [HQ4.out]; rfl, hB6⟩
            · go_wp2_with fail
              go_ret2
              exact ⟨by rw [HQ4.out]; rfl, hB6⟩
        · have HQ4 : Hid (exactQ (wh ++ fr) fr.length p = none) := by show _ = _; rw [HQ2.out, if_pos (by omega)]
          refine (xparse_no (C ++ Z) _ HENV5.out HZD.out HZN.out (by rw [List.length_append]; omega) h63).mono ?_
          rintro e w6 ⟨⟨v, N, rfl⟩, hb6⟩
          have hB6 : Below w.heap.size w w6 := hB5.trans (hb6.mono hB5.size)
          clear hb6 h63 hV
          go_wp2_with fail
          go_ret2
          exact ⟨by rw [HQ4.out]; rfl, hB6⟩

end Go.Proofs.YtjaoocincdoaaaaGreatDoor

namespace Go.Proofs.YtjaoocincdoaaaaGreatDoor
open Go.RowKit J

set_option linter.unusedVariables false

def exL (s : ByteArray) (a b : Nat) : List UInt8 := (s.extract a b).data.toList
theorem exL_split {s : ByteArray} {a b c : Nat} (h1 : a ≤ b) (h2 : b ≤ c) : exL s a c = exL s a b ++ exL s b c := by
  have e : ∀ x y, exL s x y = (s.data.toList.take y).drop x := fun x y => by
    unfold exL
    rw [ByteArray.data_extract]
    simp [List.drop_take]
  rw [e, e, e]
  obtain ⟨m, rfl⟩ : ∃ m, b = a + m := ⟨b - a, by omega⟩
  obtain ⟨n, rfl⟩ : ∃ n, c = a + m + n := ⟨c - (a + m), by omega⟩
  simp only [List.drop_take]
  rw [show a + m + n - a = m + n by omega, show a + m - a = m by omega, show a + m + n - (a + m) = n by omega, ← List.drop_drop, List.take_add]
theorem exL_nil (s : ByteArray) (a : Nat) : exL s a a = [] := by
  have : (s.extract a a).size = 0 := by rw [ByteArray.size_extract]; omega
  unfold exL
  exact List.eq_nil_of_length_eq_zero this
theorem exL_one {s : ByteArray} {k : Nat} {c : UInt8} (h : gb s k = (c.toNat : Int)) : exL s k (k + 1) = [c] := by
  rw [exL, ext_1b (lt_of_gb (by omega)), h]; simp
theorem exL_len {s : ByteArray} {a b : Nat} (hb : b ≤ s.size) : (exL s a b).length = b - a := by
  have : (s.extract a b).size = b - a := by rw [ByteArray.size_extract]; omega
  exact this
theorem exL_dig {s : ByteArray} {k : Nat} (hk : k ≤ s.size) : DigL (exL s k (runE s k)) := Digs.mem (ext_digs hk)

theorem whole_ok {s : ByteArray} {k1 k2 : Nat} (h : wholeE s k1 = some k2) : k1 < k2 ∧ k2 ≤ s.size ∧ DigL (exL s k1 k2) := by
  unfold wholeE at h
  split at h
  · rename_i h48
    injection h with h; subst h
    have := lt_of_gb (s := s) (k := k1) (by omega)
    refine ⟨by omega, by omega, ?_⟩
    rw [exL_one (c := 48) h48]; intro c hc; simp at hc; rw [hc]; decide
  · split at h
    · rename_i hd
      injection h with h; subst h
      have h1 := isDig_lt hd
      have h2 := runE_dig hd
      have h3 := runE_le s (k1 + 1)
      exact ⟨by omega, runE_size s k1 (by omega), exL_dig (by omega)⟩
    · cases h

theorem run_ok {s : ByteArray} {k : Nat} {l : ByteArray} {k' : Nat} (h : runX s k = (l, k', -1)) : l.data.toList = exL s k k' ∧ k < k' ∧ k' ≤ s.size ∧ DigL (exL s k k') := by
  unfold runX at h
  split at h
  · rename_i hd
    simp only [Prod.mk.injEq] at h
    obtain ⟨rfl, rfl, _⟩ := h
    have h1 := isDig_lt hd
    have h2 := runE_dig hd
    have h3 := runE_le s (k + 1)
    exact ⟨rfl, by omega, runE_size s k (by omega), exL_dig (by omega)⟩
  · simp only [Prod.mk.injEq] at h; omega

theorem numeral {s : ByteArray} {k k1 k2 k3 k4 : Nat} {pt : ByteArray} {p : Int} (hs : s.size ≤ 1000) (hk1 : k1 = if gb s k = 45 then k + 1 else k) (hw : wholeE s k1 = some k2) (hp : partR s k2 = (pt, k3, -1)) (hx : expR s k3 (-1) = (p, k4, -1)) :
    ∃ wh fr dot ex ec sg el, s.extract k k4 = bs (numL (decide (gb s k = 45)) wh fr dot ex ec sg el) ∧ DigL wh ∧ DigL fr ∧ DigL el ∧ wh ≠ [] ∧ (dot = false → fr = []) ∧ (ex = false → sg = 0 ∧ el = []) ∧ (ec = 101 ∨ ec = 69) ∧ wh.length + fr.length + el.length ≤ 1000 ∧ k ≤ k4 ∧ k4 ≤ s.size ∧
      exactQ (wh ++ fr) fr.length (if sg = 1 then - powP el 0 else powP el 0) = exactR ((s.extract k1 k2).data.toList ++ pt.data.toList) (((k2 - k1 : Nat) : Int) + p) := by
  obtain ⟨w1, w2, w3⟩ := whole_ok hw
  have hkk : k ≤ k1 := by rw [hk1]; split <;> omega
  have hsg : exL s k k1 = if decide (gb s k = 45) then [45] else [] := by
    by_cases h : gb s k = 45
    · rw [hk1, if_pos h, decide_eq_true h, if_pos rfl]; exact exL_one (c := 45) h
    · rw [hk1, if_neg h, decide_eq_false h, if_neg (by simp)]; exact exL_nil s k
  -- the part behind the point
  obtain ⟨dot, fr, p1, p2, p3, p4, p5, p6⟩ : ∃ (dot : Bool) (fr : List UInt8), exL s k2 k3 = (if dot then 46 :: fr else []) ∧ fr = pt.data.toList ∧ DigL fr ∧ (dot = false → fr = []) ∧ k2 ≤ k3 ∧ k3 ≤ s.size := by
    unfold partR at hp
    split at hp
    · rename_i h46
      obtain ⟨r1, r2, r3, r4⟩ := run_ok hp
      refine ⟨true, exL s (k2 + 1) k3, ?_, r1.symm, r4, by simp, by omega, r3⟩
      rw [if_pos rfl, exL_split (show k2 ≤ k2 + 1 by omega) (by omega), exL_one (c := 46) h46]; rfl
    · simp only [Prod.mk.injEq] at hp
      obtain ⟨rfl, rfl, _⟩ := hp
      exact ⟨false, [], by rw [exL_nil]; rfl, rfl, fun c hc => by simp at hc, fun _ => rfl, by omega, w2⟩
  -- the power
  obtain ⟨ex, ec, sg, el, q1, q2, q3, q4, q5, q6, q7⟩ : ∃ (ex : Bool) (ec : UInt8) (sg : Nat) (el : List UInt8), exL s k3 k4 = (if ex then ec :: (signL sg ++ el) else []) ∧ DigL el ∧ (ex = false → sg = 0 ∧ el = []) ∧ (ec = 101 ∨ ec = 69) ∧ k3 ≤ k4 ∧ k4 ≤ s.size ∧ p = (if decide (sg = 1) then - powF el 0 else powF el 0) := by
    unfold expR at hx
    rw [cv_good] at hx
    split at hx
    · rename_i he
      obtain ⟨ec, hec, hec2⟩ : ∃ ec : UInt8, gb s k3 = (ec.toNat : Int) ∧ (ec = 101 ∨ ec = 69) := by
        rcases he with he | he
        · exact ⟨101, he, .inl rfl⟩
        · exact ⟨69, he, .inr rfl⟩
      simp only [Prod.mk.injEq] at hx
      obtain ⟨x1, x2, x3⟩ := hx
      obtain ⟨sg, ks, s1, s2, s3, s4⟩ : ∃ (sg ks : Nat), ks = (if gb s (k3 + 1) = 45 ∨ gb s (k3 + 1) = 43 then k3 + 2 else k3 + 1) ∧ exL s (k3 + 1) ks = signL sg ∧ (sg = 1 ↔ gb s (k3 + 1) = 45) ∧ k3 + 1 ≤ ks := by
        by_cases h45 : gb s (k3 + 1) = 45
        · exact ⟨1, k3 + 2, by rw [if_pos (.inl h45)], exL_one (c := 45) h45, by simp [h45], by omega⟩
        · by_cases h43 : gb s (k3 + 1) = 43
          · exact ⟨2, k3 + 2, by rw [if_pos (.inr h43)], exL_one (c := 43) h43, by simp [h45], by omega⟩
          · exact ⟨0, k3 + 1, by rw [if_neg (by omega)], exL_nil s _, by simp [h45], by omega⟩
      rw [← s1] at x1 x2 x3
      have hr : runX s ks = ((runX s ks).1, k4, -1) := by rw [← x2, ← x3]
      obtain ⟨r1, r2, r3, r4⟩ := run_ok hr
      refine ⟨true, ec, sg, exL s ks k4, ?_, r4, by simp, hec2, by omega, r3, ?_⟩
      · rw [if_pos rfl, exL_split (show k3 ≤ k3 + 1 by omega) (by omega), exL_one hec, exL_split s4 (by omega), s2]; rfl
      · rw [← x1, r1]
        by_cases h45 : gb s (k3 + 1) = 45
        · rw [if_pos h45, decide_eq_true (s3.2 h45)]; rfl
        · rw [if_neg h45, decide_eq_false (fun h => h45 (s3.1 h))]; rfl
    · simp only [Prod.mk.injEq] at hx
      obtain ⟨rfl, rfl, _⟩ := hx
      exact ⟨false, 101, 0, [], by rw [exL_nil]; rfl, fun c hc => by simp at hc, fun _ => ⟨rfl, rfl⟩, .inl rfl, by omega, p6, rfl⟩
  have hlen : (exL s k1 k2).length + fr.length + el.length ≤ 1000 := by
    have l1 := exL_len (s := s) (a := k1) w2
    have l2 := exL_len (s := s) (a := k2) p6
    have l3 := exL_len (s := s) (a := k3) q6
    rw [p1] at l2
    rw [q1] at l3
    have m2 : fr.length ≤ k3 - k2 := by
      cases dot
      · rw [p4 rfl]; simp
      · simp at l2; omega
    have m3 : el.length ≤ k4 - k3 := by
      cases ex
      · rw [(q3 rfl).2]; simp
      · simp at l3; omega
    omega
  refine ⟨exL s k1 k2, fr, dot, ex, ec, sg, el, ?_, w3, p3, q2, ?_, p4, q3, q4, hlen, by omega, q6, ?_⟩
  · rw [← bs_of (s.extract k k4)]
    congr 1
    show exL s k k4 = _
    rw [numL, exL_split (show k ≤ k1 by omega) (show k1 ≤ k4 by omega), exL_split (show k1 ≤ k3 by omega) (show k3 ≤ k4 by omega), exL_split (show k1 ≤ k2 by omega) p5, hsg, p1, q1, manL]
    cases dot <;> simp
  · intro h
    have := exL_len (s := s) (a := k1) w2
    rw [h] at this; simp at this; omega
  · have hb := exact_both (exL s k1 k2) fr el (decide (sg = 1)) (w3.append p3) q2 (by rw [List.length_append]; omega)
    rw [exL_len w2, ← q7] at hb
    rw [show ((s.extract k1 k2).data.toList) = exL s k1 k2 from rfl, ← p2, ← hb]
    by_cases h1 : sg = 1
    · rw [if_pos h1, decide_eq_true h1]; rfl
    · rw [if_neg h1, decide_eq_false h1]; rfl

end Go.Proofs.YtjaoocincdoaaaaGreatDoor
