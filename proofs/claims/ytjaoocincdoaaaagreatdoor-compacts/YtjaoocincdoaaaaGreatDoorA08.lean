/- What is read is within bounds: plain. What is read is within bounds: lists and objects. The document's answer to Compact, whole. How the program reads numbers: where something that could belong to one stands behind it, it is none. The program's reader: its small steps. -/
import Derived.Test.YtjaoocincdoaaaaGreatDoorA07
namespace Go.Proofs.YtjaoocincdoaaaaGreatDoor
open Go.RowKit J

set_option linter.unusedVariables false

theorem textF_rel {s : ByteArray} : ∀ (f k : Nat) (acc : List UInt8), (textF s f k acc).2.2 < 0 → (textF s f k acc).1.length + 4 * k + 4 ≤ acc.length + 4 * (textF s f k acc).2.1
  | 0, k, acc, h => by simp [textF] at h; omega
  | f + 1, k, acc, h => by
    simp only [textF] at h ⊢
    split
    · simp; omega
    · rename_i h34
      rw [if_neg h34] at h
      split
      · rename_i h32; rw [if_pos h32] at h; simp at h; omega
      · rename_i h32
        rw [if_neg h32] at h
        split
        · rename_i h127
          rw [if_pos h127] at h
          split
          · rename_i hm
            rw [if_pos hm] at h
            have hg := manyR_good hm
            have hx : (s.extract k (manyR s k (-1)).1).data.toList.length = (manyR s k (-1)).1 - k := by
              have : (s.extract k (manyR s k (-1)).1).size = (manyR s k (-1)).1 - k := by simp [ByteArray.size_extract]; omega
              exact this
            have := textF_rel f _ _ h
            rw [List.length_append, hx] at this
            omega
          · rename_i hm; rw [if_neg hm] at h; simp at h; omega
        · rename_i h127
          rw [if_neg h127] at h
          split
          · rename_i h92
            rw [if_pos h92] at h
            split
            · rename_i hm
              rw [if_pos hm] at h
              have hg := escpR_good hm
              have := textF_rel f _ _ h
              rw [List.length_append] at this
              omega
            · rename_i hm; rw [if_neg hm] at h; simp at h; omega
          · rename_i h92
            rw [if_neg h92] at h
            have := textF_rel f _ _ h
            rw [List.length_append] at this
            simp at this
            omega

theorem textR_rel {s : ByteArray} {k : Nat} (h : (textR s k).2.2 < 0) : (textR s k).1.length + 4 * k + 8 ≤ 4 * (textR s k).2.1 ∧ k + 2 ≤ (textR s k).2.1 := by
  unfold textR at h ⊢
  split
  · rename_i hc
    rw [if_pos hc] at h
    have := textF_rel _ _ _ h
    simp at this
    omega
  · rename_i hc; rw [if_neg hc] at h; simp at h; omega

theorem quoteB_len (l : List UInt8) : (quoteB l).length ≤ 6 * l.length + 2 := by
  have := flat_len l
  simp [quoteB] at this ⊢; omega

theorem trim0_len (l : List UInt8) : (trim0 l).length ≤ l.length := by
  unfold trim0
  rw [List.length_reverse]
  have := (List.dropWhile_suffix (l := l.reverse) (fun c : UInt8 => c == 48)).length_le
  rw [List.length_reverse] at this
  exact this

theorem decB_len (n : Int) : (decB n).length ≤ 82 := by
  have h1 := digF_len 40 (n.natAbs / 1000000) 1 []
  have h2 := digF_len 40 (n.natAbs % 1000000) 6 []
  have h3 := trim0_len (digB (n.natAbs % 1000000) 6)
  have h4 : (digB (n.natAbs % 1000000) 6).length ≤ 40 := by simpa [digB] using h2
  have h5 : (digB (n.natAbs / 1000000) 1).length ≤ 40 := by simpa [digB] using h1
  unfold decB
  rw [List.length_append, List.length_append]
  have h6 : (if n < 0 then [45] else ([] : List UInt8)).length ≤ 1 := by split <;> simp
  have h7 : (if trim0 (digB (n.natAbs % 1000000) 6) = [] then ([] : List UInt8) else 46 :: trim0 (digB (n.natAbs % 1000000) 6)).length ≤ 41 := by
    split
    · simp
    · rw [List.length_cons]; omega
  omega

theorem wholeE_digs {s : ByteArray} {k k2 : Nat} (h : wholeE s k = some k2) (hk : k ≤ s.size) : Digs (s.extract k k2) ∧ k < k2 := by
  unfold wholeE at h
  split at h
  · rename_i hc
    injection h with h; subst h
    rw [ext_one hc]; exact ⟨digs_nought, by omega⟩
  · split at h
    · rename_i hd
      injection h with h; subst h
      refine ⟨ext_digs hk, ?_⟩
      rw [runE_dig hd]; have := runE_le s (k + 1); omega
    · simp at h

theorem partR_digs {s : ByteArray} {k : Nat} (hk : k ≤ s.size) : Digs (partR s k).1 := by
  unfold partR
  split
  · rename_i h
    have := lt_of_gb (s := s) (k := k) (by omega)
    obtain ⟨l, k', b', hr⟩ : ∃ l k' b', runX s (k + 1) = (l, k', b') := ⟨_, _, _, rfl⟩
    rw [hr]
    exact (runX_ok hr (by omega)).1
  · exact digs_none

theorem num_ok {s : ByteArray} {k : Nat} (hk : k ≤ s.size) (hn : (numR s k).2.2 < 0) : k < (numR s k).2.1 ∧ ∃ x, (numR s k).1 = some x ∧ 0 ≤ x.getD 0 ∧ x.getD 0 ≤ 1000000000000000 := by
  obtain ⟨k1, hk1⟩ : ∃ k1, k1 = if gb s k = 45 then k + 1 else k := ⟨_, rfl⟩
  have hk1s : k1 ≤ s.size := by
    rw [hk1]; split
    · have := lt_of_gb (s := s) (k := k) (by omega); omega
    · exact hk
  have hk1k : k ≤ k1 := by rw [hk1]; split <;> omega
  cases hw : wholeE s k1 with
  | none => rw [numR_none hk1 hw] at hn; simp at hn; omega
  | some k2 =>
    have hk2 := wholeE_le hw hk1s
    have hwd := wholeE_digs hw hk1s
    have hp := partR_bd hk2.1
    have hpd := partR_digs hk2.1
    have he := expR_bd hp.1 hp.2.1
    obtain ⟨pt, k3, b3, h3⟩ : ∃ pt k3 b3, partR s k2 = (pt, k3, b3) := ⟨_, _, _, rfl⟩
    rw [h3] at he hp hpd
    simp only at hp hpd
    obtain ⟨pw, k4, b4, h4⟩ : ∃ pw k4 b4, expR s k3 b3 = (pw, k4, b4) := ⟨_, _, _, rfl⟩
    simp only [h4] at he
    rw [numR_some hk1 hw h3 h4]
    refine ⟨by simp only; omega, _, rfl, ?_⟩
    cases hx : exactR ((s.extract k1 k2).data.toList ++ pt.data.toList) (((k2 - k1 : Nat) : Int) + pw) with
    | none => simp
    | some r =>
      have hd : ∀ c ∈ (s.extract k1 k2).data.toList ++ pt.data.toList, 48 ≤ c.toNat ∧ c.toNat ≤ 57 := by
        intro c hc
        rcases List.mem_append.1 hc with hc | hc
        · exact hwd.1.mem c hc
        · exact hpd.mem c hc
      have := exactF_le _ _ 0 0 r (by omega) (by omega) hd hx
      simpa using this

theorem word_good {s : ByteArray} {k : Nat} {l : List UInt8} (h : (wordR s k (-1) l).2 < 0) : (wordR s k (-1) l).1 = k + l.length :=
  (wordR_dead (s := s) (l := l) (k := k) (bad := -1) (k' := (wordR s k (-1) l).1) (bad' := (wordR s k (-1) l).2) rfl h).2

theorem pleaf_ok {s : ByteArray} {k : Nat} {lg : Bool} {l : Lf} {k2 : Nat} {lg2 : Bool} (hs : s.size ≤ 1000) (hk : k ≤ s.size) (h : pleaf s k lg = .ok (l, k2, lg2)) : LOk l ∧ (ltext l).length ≤ 90 * (k2 - k) ∧ k < k2 := by
  unfold pleaf at h
  split at h
  · split at h
    · rename_i hn
      have hr := textR_rel hn
      have hq := quoteB_len (textR s k).1
      injection h with h
      simp only [Prod.mk.injEq] at h
      obtain ⟨rfl, rfl, rfl⟩ := h
      refine ⟨text_size hs, ?_, by omega⟩
      show (quoteB (⟨(textR s k).1.toArray⟩ : ByteArray).data.toList).length ≤ _
      have e : (⟨(textR s k).1.toArray⟩ : ByteArray).data.toList = (textR s k).1 := by simp
      rw [e]; omega
    · simp at h
  · split at h
    · split at h
      · rename_i hn
        have ho := num_ok hk hn
        obtain ⟨h1, x, h2, h3, h4⟩ := ho
        injection h with h
        simp only [Prod.mk.injEq] at h
        obtain ⟨rfl, rfl, rfl⟩ := h
        refine ⟨?_, ?_, h1⟩
        · show -1000000000000000 ≤ _ ∧ _ ≤ (1000000000000000 : Int)
          rw [h2]; simp only [Option.getD_some]
          split <;> omega
        · have := decB_len (if gb s k = 45 then -(((numR s k).1.getD none).getD 0) else ((numR s k).1.getD none).getD 0)
          show (decB _).length ≤ _
          omega
      · simp at h
    · split at h
      · split at h
        · rename_i hn
          have := word_good hn
          injection h with h
          simp only [Prod.mk.injEq] at h
          obtain ⟨rfl, rfl, rfl⟩ := h
          rw [this]
          exact ⟨trivial, by show 4 ≤ _; simp, by simp⟩
        · simp at h
      · split at h
        · split at h
          · rename_i hn
            have := word_good hn
            injection h with h
            simp only [Prod.mk.injEq] at h
            obtain ⟨rfl, rfl, rfl⟩ := h
            rw [this]
            exact ⟨trivial, by show 5 ≤ _; simp, by simp⟩
          · simp at h
        · split at h
          · split at h
            · rename_i hn
              have := word_good hn
              injection h with h
              simp only [Prod.mk.injEq] at h
              obtain ⟨rfl, rfl, rfl⟩ := h
              rw [this]
              exact ⟨trivial, by show 4 ≤ _; simp, by simp⟩
            · simp at h
          · simp at h

end Go.Proofs.YtjaoocincdoaaaaGreatDoor

namespace Go.Proofs.YtjaoocincdoaaaaGreatDoor
open Go.RowKit J

set_option linter.unusedVariables false

def sumT : List (List UInt8) → Nat
  | [] => 0
  | x :: r => x.length + 1 + sumT r
theorem sumT_snoc : ∀ (l : List (List UInt8)) (x : List UInt8), sumT (l ++ [x]) = sumT l + (x.length + 1)
  | [], x => by simp [sumT]
  | y :: l, x => by simp [sumT, sumT_snoc l x]; omega
theorem itemsF_sum : ∀ (f : Bool) (l : List (List UInt8)), (itemsF f l).length ≤ sumT l
  | f, [] => by simp [itemsF, sumT]
  | f, x :: l => by
    have := itemsF_sum false l
    have h : (if f then ([] : List UInt8) else [44]).length ≤ 1 := by cases f <;> simp
    simp only [itemsF, sumT, List.length_append]; omega

/-- What an item that was read bears. -/
def ItemOk (n : Nat) (s : ByteArray) : Prop := ∀ k lg v k2 lg2, k ≤ s.size → pval n s k lg = .ok (v, k2, lg2) → VOk n v ∧ (vtext n v).length ≤ 90 * (k2 - k) ∧ k < k2 ∧ k2 ≤ s.size

theorem list_ok {n : Nat} {s : ByteArray} (hi : ItemOk n s) : ∀ (f : Nat) (fst : Bool) (k : Nat) (lg : Bool) (acc vs : List (VT n)) (k2 : Nat) (lg2 : Bool), k ≤ s.size → (∀ x ∈ acc, VOk n x) → listF (pval n s) s f fst k lg acc = .ok (vs, k2, lg2) →
    (∀ x ∈ vs, VOk n x) ∧ sumT (vs.map (vtext n)) ≤ sumT (acc.map (vtext n)) + 90 * (k2 - k) + (if fst then 1 else 0) ∧ k < k2 ∧ k2 ≤ s.size
  | 0, fst, k, lg, acc, vs, k2, lg2, hk, ha, h => by simp [listF] at h
  | f + 1, fst, k, lg, acc, vs, k2, lg2, hk, ha, h => by
    simp only [listF] at h
    split at h
    · rename_i hc
      have := lt_of_gb (s := s) (k := k) (by omega)
      injection h with h
      simp only [Prod.mk.injEq] at h
      obtain ⟨rfl, rfl, rfl⟩ := h
      exact ⟨ha, by omega, by omega, by omega⟩
    · split at h
      · simp at h
      · rename_i hn
        have hk0 : (if fst then k else k + 1) ≤ s.size := by
          cases fst
          · have : gb s k = 44 := by simpa using hn
            have := lt_of_gb (s := s) (k := k) (by omega)
            simp; omega
          · simpa using hk
        split at h
        · simp at h
        · rename_i r hr
          obtain ⟨v, k', lg'⟩ := r
          have ho := hi _ _ _ _ _ hk0 hr
          have hsk := skip_le s k'
          have hsz := skip_size s k' ho.2.2.2
          have ih := list_ok hi f false (skip s k') lg' (acc ++ [v]) vs k2 lg2 hsz (by
            intro x hx
            rcases List.mem_append.1 hx with hx | hx
            · exact ha x hx
            · simp at hx; subst hx; exact ho.1) h
          rw [List.map_append, List.map_cons, List.map_nil, sumT_snoc] at ih
          refine ⟨ih.1, ?_, ?_, ih.2.2.2⟩
          · have h1 := ih.2.1
            have h2 := ho.2.1
            have h3 := ho.2.2.1
            have h4 := ih.2.2.1
            cases fst
            · simp at h1 h2 h3 ⊢; omega
            · simp at h1 h2 h3 ⊢; omega
          · have h3 := ho.2.2.1
            have h4 := ih.2.2.1
            cases fst <;> simp at h3 <;> omega

theorem put_sum {n : Nat} : ∀ (ks : List ByteArray) (vs : List (VT n)) (key : ByteArray) (v : VT n), ks.length = vs.length → sumT (List.zipWith memT (putK ks key) ((putP ks vs key v).map (vtext n))) ≤ sumT (List.zipWith memT ks (vs.map (vtext n))) + ((memT key (vtext n v)).length + 1)
  | [], [], key, v, _ => by simp [putK, putP, sumT]
  | k' :: ks, x :: vs, key, v, hl => by
    simp only [putK, putP]
    split
    · rename_i he
      subst he
      simp [sumT]; omega
    · have := put_sum ks vs key v (by simpa using hl)
      simp [sumT] at this ⊢; omega
  | [], x :: vs, key, v, hl => by simp at hl
  | k' :: ks, [], key, v, hl => by simp at hl

theorem putP_mem {K α : Type} [DecidableEq K] : ∀ (ks : List K) (vs : List α) (k : K) (x y : α), y ∈ putP ks vs k x → y ∈ vs ∨ y = x
  | [], vs, k, x, y, h => by simpa [putP] using h
  | k' :: ks, [], k, x, y, h => by simpa [putP] using h
  | k' :: ks, v :: vs, k, x, y, h => by
    simp only [putP] at h
    split at h
    · rcases List.mem_cons.1 h with h | h
      · exact Or.inr h
      · exact Or.inl (by simp [h])
    · rcases List.mem_cons.1 h with h | h
      · exact Or.inl (by simp [h])
      · rcases putP_mem ks vs k x y h with h | h
        · exact Or.inl (by simp [h])
        · exact Or.inr h
theorem putK_mem {K : Type} [DecidableEq K] : ∀ (ks : List K) (k y : K), y ∈ putK ks k → y ∈ ks ∨ y = k
  | [], k, y, h => by simpa [putK] using h
  | k' :: ks, k, y, h => by
    simp only [putK] at h
    split at h
    · exact Or.inl h
    · rcases List.mem_cons.1 h with h | h
      · exact Or.inl (by simp [h])
      · rcases putK_mem ks k y h with h | h
        · exact Or.inl (by simp [h])
        · exact Or.inr h

theorem obj_ok {n : Nat} {s : ByteArray} (hs : s.size ≤ 1000) (hi : ItemOk n s) : ∀ (f : Nat) (fst : Bool) (k : Nat) (lg : Bool) (ks : List ByteArray) (acc : List (VT n)) (ks2 : List ByteArray) (vs : List (VT n)) (k2 : Nat) (lg2 : Bool), k ≤ s.size → ks.length = acc.length → (∀ x ∈ ks, x.size ≤ 100000) → (∀ x ∈ acc, VOk n x) → objF (pval n s) s f fst k lg ks acc = .ok ((ks2, vs), k2, lg2) →
    ks2.length = vs.length ∧ (∀ x ∈ ks2, x.size ≤ 100000) ∧ (∀ x ∈ vs, VOk n x) ∧ sumT (List.zipWith memT ks2 (vs.map (vtext n))) ≤ sumT (List.zipWith memT ks (acc.map (vtext n))) + 90 * (k2 - k) ∧ k < k2 ∧ k2 ≤ s.size
  | 0, fst, k, lg, ks, acc, ks2, vs, k2, lg2, hk, hl, hka, ha, h => by simp [objF] at h
  | f + 1, fst, k, lg, ks, acc, ks2, vs, k2, lg2, hk, hl, hka, ha, h => by
    simp only [objF] at h
    split at h
    · rename_i hc
      have := lt_of_gb (s := s) (k := k) (by omega)
      injection h with h
      simp only [Prod.mk.injEq] at h
      obtain ⟨⟨rfl, rfl⟩, rfl, rfl⟩ := h
      exact ⟨hl, hka, ha, by omega, by omega, by omega⟩
    · split at h
      · simp at h
      · rename_i hn
        have hk0 : (if fst then k else k + 1) ≤ s.size ∧ k ≤ (if fst then k else k + 1) := by
          cases fst
          · have : gb s k = 44 := by simpa using hn
            have := lt_of_gb (s := s) (k := k) (by omega)
            simp; omega
          · simpa using hk
        generalize (if fst then k else k + 1) = ka at hk0 h
        have hsa := skip_size s ka hk0.1
        have hla := skip_le s ka
        generalize skip s ka = k0 at hsa hla h
        split at h
        · simp at h
        · rename_i htb
          have htb' : (textR s k0).2.2 < 0 := by omega
          have hr0 := textR_rel htb'
          have hle0 := textR_le hsa htb'
          have hq := quoteB_len (textR s k0).1
          have hts := text_size (k := k0) hs
          generalize textR s k0 = t at hr0 hle0 hq hts h
          have hsb := skip_size s t.2.1 hle0
          have hlb := skip_le s t.2.1
          generalize skip s t.2.1 = k1 at hsb hlb h
          split at h
          · simp at h
          · rename_i h58
            have hk1 := lt_of_gb (s := s) (k := k1) (by omega)
            split at h
            · simp at h
            · rename_i r hr
              obtain ⟨v, k', lg'⟩ := r
              have ho := hi _ _ _ _ _ (by omega) hr
              have hsk := skip_le s k'
              have hsz := skip_size s k' ho.2.2.2
              have ih := obj_ok hs hi f false (skip s k') lg' (putK ks ⟨t.1.toArray⟩) (putP ks acc ⟨t.1.toArray⟩ v) ks2 vs k2 lg2 hsz (putK_length ks acc _ v hl) (by
                intro x hx
                rcases putK_mem _ _ _ hx with hx | hx
                · exact hka x hx
                · subst hx; exact hts) (by
                intro x hx
                rcases putP_mem _ _ _ _ _ hx with hx | hx
                · exact ha x hx
                · subst hx; exact ho.1) h
              have hps := put_sum ks acc ⟨t.1.toArray⟩ v hl
              have hmt : (memT (⟨t.1.toArray⟩ : ByteArray) (vtext n v)).length = (quoteB t.1).length + 1 + (vtext n v).length := by
                simp [memT]; omega
              refine ⟨ih.1, ih.2.1, ih.2.2.1, ?_, ?_, ih.2.2.2.2.2⟩
              · have h1 := ih.2.2.2.1
                have h2 := ho.2.1
                have h3 := ho.2.2.1
                have h4 := ih.2.2.2.2.1
                omega
              · have h3 := ho.2.2.1
                have h4 := ih.2.2.2.2.1
                omega

theorem num_le {s : ByteArray} {k : Nat} (hk : k ≤ s.size) (hn : (numR s k).2.2 < 0) : (numR s k).2.1 ≤ s.size := by
  obtain ⟨k1, hk1⟩ : ∃ k1, k1 = if gb s k = 45 then k + 1 else k := ⟨_, rfl⟩
  have hk1s : k1 ≤ s.size := by
    rw [hk1]; split
    · have := lt_of_gb (s := s) (k := k) (by omega); omega
    · exact hk
  cases hw : wholeE s k1 with
  | none => rw [numR_none hk1 hw] at hn; simp at hn; omega
  | some k2 =>
    have hk2 := wholeE_le hw hk1s
    have hp := partR_bd hk2.1
    have he := expR_bd hp.1 hp.2.1
    rw [numR_some hk1 hw (show partR s k2 = ((partR s k2).1, (partR s k2).2.1, (partR s k2).2.2) from rfl) (show expR s (partR s k2).2.1 (partR s k2).2.2 = ((expR s (partR s k2).2.1 (partR s k2).2.2).1, (expR s (partR s k2).2.1 (partR s k2).2.2).2.1, (expR s (partR s k2).2.1 (partR s k2).2.2).2.2) from rfl)]
    exact he.2.1

theorem pleaf_le {s : ByteArray} {k : Nat} {lg : Bool} {l : Lf} {k2 : Nat} {lg2 : Bool} (hs : s.size ≤ 1000) (hk : k ≤ s.size) (h : pleaf s k lg = .ok (l, k2, lg2)) : k2 ≤ s.size := by
  have hw : ∀ lit, (wordR s k (-1) lit).1 ≤ s.size := fun lit => word_le (s := s) (l := lit) (k := k) (bad := -1) (k' := (wordR s k (-1) lit).1) (bad' := (wordR s k (-1) lit).2) rfl hk
  unfold pleaf at h
  split at h
  · split at h
    · rename_i hn
      injection h with h; simp only [Prod.mk.injEq] at h
      rw [← h.2.1]; exact textR_le hk hn
    · simp at h
  · split at h
    · rename_i hc
      split at h
      · rename_i hn
        injection h with h; simp only [Prod.mk.injEq] at h
        rw [← h.2.1]
        exact num_le hk hn
      · simp at h
    · split at h
      · split at h
        · injection h with h; simp only [Prod.mk.injEq] at h; rw [← h.2.1]; exact hw _
        · simp at h
      · split at h
        · split at h
          · injection h with h; simp only [Prod.mk.injEq] at h; rw [← h.2.1]; exact hw _
          · simp at h
        · split at h
          · split at h
            · injection h with h; simp only [Prod.mk.injEq] at h; rw [← h.2.1]; exact hw _
            · simp at h
          · simp at h

theorem item_ok (s : ByteArray) (hs : s.size ≤ 1000) : ∀ n, ItemOk n s
  | 0 => by
    intro k lg v k2 lg2 hk h
    have hsk := skip_le s k
    have hsz := skip_size s k hk
    have h' : (pleaf s (skip s k) lg).map (fun r => (VT.leaf 0 r.1, r.2)) = .ok (v, k2, lg2) := h
    cases hp : pleaf s (skip s k) lg with
    | error p => rw [hp] at h'; simp [Except.map] at h'
    | ok r =>
      obtain ⟨l, k', lg'⟩ := r
      rw [hp] at h'
      simp only [Except.map, Except.ok.injEq, Prod.mk.injEq] at h'
      obtain ⟨rfl, rfl, rfl⟩ := h'
      have ho := pleaf_ok hs hsz hp
      refine ⟨ho.1, Nat.le_trans ho.2.1 (by omega), by omega, pleaf_le hs hsz hp⟩
  | n + 1 => by
    have ih := item_ok s hs n
    intro k lg v k2 lg2 hk h
    have hsk := skip_le s k
    have hsz := skip_size s k hk
    simp only [pval] at h
    split at h
    · rename_i hc
      have hlt := lt_of_gb (s := s) (k := skip s k) (by omega)
      cases hp : listF (pval n s) s (s.size + 1) true (skip s (skip s k + 1)) lg [] with
      | error p => rw [hp] at h; simp [Except.map] at h
      | ok r =>
        obtain ⟨vs, k', lg'⟩ := r
        rw [hp] at h
        simp only [Except.map, Except.ok.injEq, Prod.mk.injEq] at h
        obtain ⟨rfl, rfl, rfl⟩ := h
        have h1 := skip_le s (skip s k + 1)
        have ho := list_ok ih _ _ _ _ _ _ _ _ (skip_size s _ (by omega)) (by simp) hp
        refine ⟨ho.1, ?_, by omega, ho.2.2.2⟩
        show (91 :: itemsF true (vs.map (vtext n)) ++ [93]).length ≤ _
        have h2 := itemsF_sum true (vs.map (vtext n))
        have h3 := ho.2.1
        simp [sumT] at h3 ⊢; omega
    · split at h
      · rename_i hc
        have hlt := lt_of_gb (s := s) (k := skip s k) (by omega)
        cases hp : objF (pval n s) s (s.size + 1) true (skip s (skip s k + 1)) lg [] [] with
        | error p => rw [hp] at h; simp [Except.map] at h
        | ok r =>
          obtain ⟨⟨ks, vs⟩, k', lg'⟩ := r
          rw [hp] at h
          simp only [Except.map, Except.ok.injEq, Prod.mk.injEq] at h
          obtain ⟨rfl, rfl, rfl⟩ := h
          have h1 := skip_le s (skip s k + 1)
          have ho := obj_ok hs ih _ _ _ _ _ _ _ _ _ _ (skip_size s _ (by omega)) rfl (by simp) (by simp) hp
          refine ⟨⟨ho.2.1, ho.2.2.1⟩, ?_, by omega, ho.2.2.2.2.2⟩
          show (123 :: itemsF true (List.zipWith memT ks (vs.map (vtext n))) ++ [125]).length ≤ _
          have h2 := itemsF_sum true (List.zipWith memT ks (vs.map (vtext n)))
          have h3 := ho.2.2.2.1
          simp [sumT] at h3 ⊢; omega
      · cases hp : pleaf s (skip s k) lg with
        | error p => rw [hp] at h; simp [Except.map] at h
        | ok r =>
          obtain ⟨l, k', lg'⟩ := r
          rw [hp] at h
          simp only [Except.map, Except.ok.injEq, Prod.mk.injEq] at h
          obtain ⟨rfl, rfl, rfl⟩ := h
          have ho := pleaf_ok hs hsz hp
          refine ⟨ho.1, Nat.le_trans ho.2.1 (by omega), by omega, pleaf_le hs hsz hp⟩

end Go.Proofs.YtjaoocincdoaaaaGreatDoor

namespace Go.Proofs.YtjaoocincdoaaaaGreatDoor
open Go.RowKit J

set_option linter.unusedVariables false

set_option maxHeartbeats 1000000 in
theorem vtext_any (n : Nat) (v : VT n) (p : Value) (w : World) (href : RefV n w (fun m => m < w.heap.size) v p) (hok : VOk n v) (hlen : (vtext n v).length ≤ 900000) :
    Calls Tryz.prog 18 #[p] w fun e w' => e = .returned (.string (bs (vtext n v))) ∧ Below w.heap.size w w' := by
  go_enter Tryz.func18, Tryz.ntmps18
  go_wp2_with fail
  refine (write_all n v p w w.heap.size _ [] href hok (Nat.le_refl _) (OB.nil _ _) (by simpa using hlen)).mono ?_
  rintro e w1 ⟨o1, rfl, hown1, hbel1, hsz1⟩
  have hcv := conv_own hown1
  clear href hok hlen
  go_wp2
  go_ret
  exact ⟨by rfl, hbel1⟩

/-- What 'first' tells: the value, where it and the blanks behind it end, what is wrong, whether a number is none. -/
def FirstIs (s : ByteArray) (p : Value) (end_ bad : Int) (lg : Bool) (w0 w' : World) : Prop :=
  match pval 12 s 0 false with
  | .error q => bad = (q : Int)
  | .ok r => bad = -1 ∧ end_ = ((skip s r.2.1 : Nat) : Int) ∧ lg = r.2.2 ∧ RefV 12 w' (fun m => w0.heap.size ≤ m) r.1 p

set_option maxHeartbeats 2000000 in
theorem first_any (s : ByteArray) (w : World) (hs : s.size ≤ 1000) :
    Calls Tryz.prog 36 #[.string s] w fun e w' => ∃ p en bad lg, e = .returned (.tuple #[p, .int .i64 en, .int .i64 bad, .bool lg]) ∧ Below w.heap.size w w' ∧ -1 ≤ bad ∧ 0 ≤ en ∧ Hid (FirstIs s p en bad lg w w') := by
  go_enter Tryz.func36, Tryz.ntmps36
  go_wp2_with fail
  have hblk0 : (w.alloc (rblk s 0 0 (-1) false)).heap[w.heap.size]? = some (rblk s (0 : Nat) 0 (-1) false) := heap_new rfl
  refine ((val_br_all 12).1 w.heap.size s 0 0 false _ (by decide) (by decide) hblk0 hs (Nat.zero_le _)).mono ?_
  rintro e w1 ⟨p, v, k', bad', lg', rfl, hbut1, href1, hpt1, hblk1, hbad1, hle1, hres1⟩
  have hB1 : Below w.heap.size w w1 := ((Below.refl w.heap.size w).alloc (Nat.le_refl _) (rblk s 0 0 (-1) false)).trans (hbut1.below (Nat.le_refl _) (by simp))
  cases hpv : pval 12 s 0 false with
  | error q =>
    have hr := hres1.out
    rw [hpv] at hr
    have hbe : bad' = (q : Int) := hr
    subst hbe
    have HPV : Hid (pval 12 s 0 false = .error q) := hpv
    clear hr hpv hres1 href1 hpt1 hle1 hblk0
    go_wp2_with (go_at_call 53; refine (blanks_dead _ s k' 0 _ lg' _ (by exact hblk1) (by omega)).mono ?_; rintro e w2 ⟨rfl, hbut2, hblk2⟩)
    obtain ⟨c0, c1, c2, c3, c4, hf⟩ := rcells hblk2
    have hB2 : Below w.heap.size w w2 := hB1.trans (hbut2.below (Nat.le_refl _) hB1.size)
    clear hblk1 hblk2 hbut1 hbut2 hB1 c0 c2 hf
    go_quiet (fail)
    go_wp2
    refine bodyPost_ret (v := .tuple #[p, .int .i64 k', .int .i64 q, .bool lg']) (by simp [results, Tryz.results36]) rfl ⟨p, k', q, lg', rfl, ⟨hB2.os, hB2.tape, hB2.output, hB2.size, hB2.block⟩, by omega, by omega, ?_⟩
    show FirstIs _ _ _ _ _ _ _
    rw [FirstIs, HPV.out]
  | ok r =>
    have hr := hres1.out
    rw [hpv] at hr
    obtain ⟨hb1, hb2, hb3, hb4⟩ : bad' = -1 ∧ v = r.1 ∧ k' = r.2.1 ∧ lg' = r.2.2 := hr
    subst hb1
    have HPV : Hid (pval 12 s 0 false = .ok r) := hpv
    have HBS : Hid (v = r.1 ∧ k' = r.2.1 ∧ lg' = r.2.2) := ⟨hb2, hb3, hb4⟩
    have HREF := href1.out (by omega)
    clear hpv hres1 href1 hpt1 hle1 hblk0 hb2 hb3 hb4
    have HREF2 : Hid (RefV 12 w1 (fun m => w.heap.size < m) v p) := RefV.keep 12 HREF (fun k o hk ho => ⟨rfl, by have h := hk; simp at h; omega⟩)
    clear HREF
    go_wp2_with (go_at_call 53; refine (blanks_good _ s k' 0 lg' _ (by exact hblk1) hs).mono ?_; rintro e w2 ⟨rfl, hbut2, hblk2⟩)
    obtain ⟨c0, c1, c2, c3, c4, hf⟩ := rcells hblk2
    have hB2 : Below w.heap.size w w2 := hB1.trans (hbut2.below (Nat.le_refl _) hB1.size)
    have HREF3 : Hid (RefV 12 w2 (fun m => w.heap.size ≤ m) v p) := RefV.keep 12 HREF2.out (fun k o hk ho => ⟨hbut2.block k (lt_of_heap ho) (by intro e; injection e; omega), Nat.le_of_lt hk⟩)
    clear hblk1 hblk2 hbut1 hbut2 hB1 c0 c2 hf HREF2
    go_quiet (fail)
    go_wp2
    refine bodyPost_ret (v := .tuple #[p, .int .i64 (skip s k' : Nat), .int .i64 (-1), .bool lg']) (by simp [results, Tryz.results36]) rfl ⟨p, _, _, lg', rfl, ⟨hB2.os, hB2.tape, hB2.output, hB2.size, hB2.block⟩, by omega, by omega, ?_⟩
    show FirstIs _ _ _ _ _ _ _
    rw [FirstIs, HPV.out]
    refine ⟨rfl, by rw [← HBS.out.2.1], HBS.out.2.2, ?_⟩
    rw [← HBS.out.1]
    exact RefV.keep 12 HREF3.out (fun k o hk ho => ⟨rfl, hk⟩)

/-- The document's Compact: the text, the place, the error's number. -/
def specC (s : ByteArray) : List UInt8 × Nat × Int :=
  if 1000 < s.size then ([], 0, 1)
  else match pval 12 s 0 false with
    | .error q => ([], q, 5)
    | .ok r => if skip s r.2.1 < s.size then ([], skip s r.2.1, 5) else if r.2.2 then ([], 0, 6) else (vtext 12 r.1, 0, 0)

set_option maxHeartbeats 2000000 in
theorem read_any (s : ByteArray) (w : World) (hmax : s.size ≤ maxLen) :
    Calls Tryz.prog 17 #[.string s] w fun e w' => ∃ p, e = .returned (.tuple #[p, .int .i64 (specC s).2.1, .int .i64 (specC s).2.2]) ∧ Below w.heap.size w w' ∧ Hid ((specC s).2.2 = 0 → (specC s).2.1 = 0 ∧ ∃ v, VOk 12 v ∧ (specC s).1 = vtext 12 v ∧ (vtext 12 v).length ≤ 900000 ∧ RefV 12 w' (fun m => w.heap.size ≤ m) v p ∧ ∃ k lg, pval 12 s 0 false = .ok (v, k, lg)) ∧ Hid ((specC s).2.2 ≠ 0 → (specC s).1 = []) := by
  unfold maxLen at hmax
  by_cases hbig : 1000 < s.size
  · have e1 : specC s = ([], 0, 1) := by rw [specC, if_pos hbig]
    rw [e1]
    clear e1
    go_enter Tryz.func17, Tryz.ntmps17
    go_wp2
    go_ret3
    exact ⟨.pointer none, rfl, Below.refl _ _, fun h => by simp at h, by unfold Hid; intros; first | rfl | trivial⟩
  · have hs : s.size ≤ 1000 := by omega
    have HS : Hid (s.size ≤ 1000) := hs
    obtain ⟨R, hR⟩ : ∃ R, R = specC s := ⟨_, rfl⟩
    rw [← hR]
    have HR : Hid (R = match pval 12 s 0 false with | .error q => ([], q, 5) | .ok r => if skip s r.2.1 < s.size then ([], skip s r.2.1, 5) else if r.2.2 then ([], 0, 6) else (vtext 12 r.1, 0, 0)) := by show _ = _; rw [hR, specC, if_neg hbig]
    clear hR
    go_enter Tryz.func17, Tryz.ntmps17
    go_wp2_with fail
    refine (first_any s w hs).mono ?_
    rintro e w1 ⟨p, en, bad, lg, rfl, hB, hbad, hen, hfi⟩
    have hF := hfi.out
    unfold FirstIs at hF
    cases hpv : pval 12 s 0 false with
    | error q =>
      rw [hpv] at hF
      have hbe : bad = (q : Int) := hF
      subst hbe
      have HR2 : Hid (R = ([], q, 5)) := by show _ = _; rw [HR.out, hpv]
      clear hF hpv hfi HR
      go_wp2
      go_ret3
      exact ⟨.pointer none, by rw [HR2.out]; rfl, hB, fun h => by rw [HR2.out] at h; simp at h, fun _ => by rw [HR2.out]⟩
    | ok r =>
      rw [hpv] at hF
      obtain ⟨h1, h2, h3, h4⟩ := hF
      have HR2 : Hid (R = if skip s r.2.1 < s.size then ([], skip s r.2.1, 5) else if r.2.2 then ([], 0, 6) else (vtext 12 r.1, 0, 0)) := by show _ = _; rw [HR.out, hpv]
      have hok := item_ok s hs 12 0 false r.1 r.2.1 r.2.2 (Nat.zero_le _) hpv
      have hsk := skip_size s r.2.1 hok.2.2.2
      subst h1
      subst h2
      obtain ⟨E, hE⟩ : ∃ E, E = skip s r.2.1 := ⟨_, rfl⟩
      rw [← hE] at hsk
      have HREF : Hid (RefV 12 w1 (fun m => w.heap.size ≤ m) r.1 p) := h4
      have HOK : Hid (VOk 12 r.1 ∧ (vtext 12 r.1).length ≤ 900000) := ⟨hok.1, by have := hok.2.1; have := hok.2.2.2; omega⟩
      rw [← hE]
      have HE : Hid (E = skip s r.2.1) := hE
      have HLG : Hid (lg = r.2.2) := h3
      have HPV : Hid (pval 12 s 0 false = .ok r) := hpv
      clear hpv hfi HR hok h3 h4 hE
      by_cases hlt : E < s.size
      · have HR3 : Hid (R = ([], E, 5)) := by show _ = _; rw [HR2.out, ← HE.out, if_pos hlt]
        go_wp2
        go_ret3
        exact ⟨.pointer none, by rw [HR3.out]; rfl, hB, fun h => by rw [HR3.out] at h; simp at h, fun _ => by rw [HR3.out]⟩
      · cases lg
        · have HR3 : Hid (R = (vtext 12 r.1, 0, 0)) := by show _ = _; rw [HR2.out, ← HE.out, if_neg hlt, ← HLG.out]; rfl
          go_wp2
          go_ret3
          exact ⟨p, by rw [HR3.out]; rfl, hB, fun _ => ⟨by rw [HR3.out], r.1, HOK.out.1, by rw [HR3.out], HOK.out.2, HREF.out, r.2.1, r.2.2, HPV.out⟩, fun h => by rw [HR3.out] at h; simp at h⟩
        · have HR3 : Hid (R = ([], 0, 6)) := by show _ = _; rw [HR2.out, ← HE.out, if_neg hlt, ← HLG.out]; rfl
          go_wp2
          go_ret3
          exact ⟨.pointer none, by rw [HR3.out]; rfl, hB, fun h => by rw [HR3.out] at h; simp at h, fun _ => by rw [HR3.out]⟩

set_option maxHeartbeats 2000000 in
theorem ref_compact (s : ByteArray) (w : World) (hmax : s.size ≤ maxLen) :
    Calls Tryz.prog 10 #[.string s] w fun e w' => e = .returned (.tuple #[.string (bs (specC s).1), .int .i64 (specC s).2.1, .int .i64 (specC s).2.2]) ∧ Below w.heap.size w w' := by
  obtain ⟨R, hR⟩ : ∃ R, R = specC s := ⟨_, rfl⟩
  have hread := read_any s w hmax
  rw [← hR] at hread ⊢
  have HRead : Hid _ := hread
  obtain ⟨a, b, c⟩ := R
  simp only at hread
  have hread' := hread
  clear hread HRead hR
  go_enter Tryz.func10, Tryz.ntmps10
  go_wp2_with fail
  refine hread'.mono ?_
  rintro e w1 ⟨p, rfl, hB, hyes, hno⟩
  clear hread'
  by_cases hc : c = 0
  · subst hc
    obtain ⟨hb0, v, hok, hv, hlen, href, _⟩ := hyes.out rfl
    have hb0' : b = 0 := hb0
    subst hb0'
    have HV : Hid (a = vtext 12 v) := hv
    have href' : RefV 12 w1 (fun m => m < w1.heap.size) v p := RefV.keep 12 href (fun k o hk ho => ⟨rfl, lt_of_heap ho⟩)
    clear hyes hno hv
    go_wp2_with (go_at_call 18; refine (vtext_any 12 v p w1 href' hok hlen).mono ?_; rintro e w2 ⟨rfl, hB2⟩)
    go_ret3
    exact ⟨by rw [HV.out]; rfl, hB.trans (hB2.mono hB.size)⟩
  · have hcn : (c != 0) = true := by rw [bne_iff_ne]; exact hc
    have hr1 : a = [] := hno.out hc
    subst hr1
    clear hyes hno hc
    go_wp2
    go_ret3
    exact ⟨rfl, hB⟩

end Go.Proofs.YtjaoocincdoaaaaGreatDoor

namespace Go.Proofs.YtjaoocincdoaaaaGreatDoor
open Go.RowKit J

set_option linter.unusedVariables false

/-- The bytes that numbers are made of. -/
def isNumB (c : Int) : Bool := isDig c || (c == 43 || (c == 45 || (c == 46 || (c == 101 || c == 69))))
theorem isNumB_ne {c : Int} (h : isNumB c = true) : c ≠ 93 ∧ c ≠ 44 ∧ c ≠ 125 ∧ isBl c = false ∧ 0 < c := by
  simp [isNumB, isDig] at h
  refine ⟨by omega, by omega, by omega, ?_, by omega⟩
  simp [isBl]; omega

/-- A number, as the program reads it. -/
def numQ (s : ByteArray) (k : Nat) : Option (Option Int) × Nat × Int :=
  if (numR s k).2.2 < 0 ∧ isNumB (gb s (numR s k).2.1) = true then ((numR s k).1, (numR s k).2.1, ((numR s k).2.1 : Int)) else numR s k

theorem numQ_21 (s : ByteArray) (k : Nat) : (numQ s k).2.1 = (numR s k).2.1 := by unfold numQ; split <;> rfl
theorem numQ_bad {s : ByteArray} {k : Nat} {x : Option (Option Int)} {k6 : Nat} (h : numR s k = (x, k6, -1)) (h2 : isNumB (gb s k6) = true) : numQ s k = (x, k6, (k6 : Int)) := by
  rw [numQ, h, if_pos ⟨by simp, h2⟩]
theorem numQ_good {s : ByteArray} {k : Nat} {x : Option (Option Int)} {k6 : Nat} (h : numR s k = (x, k6, -1)) (h2 : isNumB (gb s k6) = false) : numQ s k = (x, k6, -1) := by
  rw [numQ, h, if_neg (by simp [h2])]
theorem numQ_err {s : ByteArray} {k : Nat} (h : 0 ≤ (numR s k).2.2) : numQ s k = numR s k := by
  rw [numQ, if_neg (by omega)]

/-- A leaf that begins at k. -/
def pleafQ (s : ByteArray) (k : Nat) (lg : Bool) : Except Nat (Lf × Nat × Bool) :=
  if gb s k = 34 then (if (textR s k).2.2 < 0 then .ok (Lf.str ⟨(textR s k).1.toArray⟩, (textR s k).2.1, lg) else .error (textR s k).2.2.toNat)
  else if gb s k = 45 ∨ isDig (gb s k) = true then
    (if (numQ s k).2.2 < 0 then .ok (Lf.num (if gb s k = 45 then -(((numQ s k).1.getD none).getD 0) else ((numQ s k).1.getD none).getD 0), (numQ s k).2.1, numLg lg (numQ s k).1) else .error (numQ s k).2.2.toNat)
  else if gb s k = 110 then (if (wordR s k (-1) [110, 117, 108, 108]).2 < 0 then .ok (Lf.null, (wordR s k (-1) [110, 117, 108, 108]).1, lg) else .error (wordR s k (-1) [110, 117, 108, 108]).2.toNat)
  else if gb s k = 102 then (if (wordR s k (-1) [102, 97, 108, 115, 101]).2 < 0 then .ok (Lf.truth false, (wordR s k (-1) [102, 97, 108, 115, 101]).1, lg) else .error (wordR s k (-1) [102, 97, 108, 115, 101]).2.toNat)
  else if gb s k = 116 then (if (wordR s k (-1) [116, 114, 117, 101]).2 < 0 then .ok (Lf.truth true, (wordR s k (-1) [116, 114, 117, 101]).1, lg) else .error (wordR s k (-1) [116, 114, 117, 101]).2.toNat)
  else .error k

/-- A value that begins at k, or behind blanks. -/
def pvalQ : (n : Nat) → ByteArray → Nat → Bool → Except Nat (VT n × Nat × Bool)
  | 0, s, k, lg => (pleafQ s (skip s k) lg).map fun r => (VT.leaf 0 r.1, r.2)
  | n + 1, s, k, lg =>
    if gb s (skip s k) = 91 then (listF (pvalQ n s) s (s.size + 1) true (skip s (skip s k + 1)) lg []).map fun r => (VT.list r.1, r.2)
    else if gb s (skip s k) = 123 then (objF (pvalQ n s) s (s.size + 1) true (skip s (skip s k + 1)) lg [] []).map fun r => (VT.obj r.1.1 r.1.2, r.2)
    else (pleafQ s (skip s k) lg).map fun r => (VT.leaf (n + 1) r.1, r.2)

/-- A list, or an object, whose bracket stands at k. -/
def brkQ : (n : Nat) → ByteArray → Nat → Bool → Bool → Except Nat (VT n × Nat × Bool)
  | 0, _, k, _, _ => .error k
  | n + 1, s, k, lg, obj =>
    if obj then (objF (pvalQ n s) s (s.size + 1) true (skip s (k + 1)) lg [] []).map fun r => (VT.obj r.1.1 r.1.2, r.2)
    else (listF (pvalQ n s) s (s.size + 1) true (skip s (k + 1)) lg []).map fun r => (VT.list r.1, r.2)

theorem pleafQ_no {s : ByteArray} {k : Nat} {lg : Bool} (h1 : gb s k ≠ 34) (h2 : gb s k ≠ 45) (h3 : isDig (gb s k) = false) (h4 : gb s k ≠ 110) (h5 : gb s k ≠ 102) (h6 : gb s k ≠ 116) : pleafQ s k lg = .error k := by
  rw [pleafQ, if_neg h1, if_neg (by simp [h2, h3]), if_neg h4, if_neg h5, if_neg h6]
theorem pvalQ_br {n : Nat} {s : ByteArray} {k : Nat} {lg : Bool} (obj : Bool) (h : gb s (skip s k) = if obj then 123 else 91) : pvalQ n s k lg = brkQ n s (skip s k) lg obj := by
  cases n with
  | zero =>
    cases obj
    all_goals
      simp at h
      simp only [pvalQ, brkQ]
      rw [pleafQ_no (by omega) (by omega) (isDig_no (by omega)) (by omega) (by omega) (by omega)]; rfl
  | succ n =>
    cases obj
    · simp at h
      simp only [pvalQ, brkQ]
      rw [if_pos h]; rfl
    · simp at h
      simp only [pvalQ, brkQ]
      rw [if_neg (by omega), if_pos h]; rfl
theorem pvalQ_leaf {n : Nat} {s : ByteArray} {k : Nat} {lg : Bool} (h1 : gb s (skip s k) ≠ 91) (h2 : gb s (skip s k) ≠ 123) : pvalQ n s k lg = (pleafQ s (skip s k) lg).map fun r => (VT.leaf n r.1, r.2) := by
  cases n with
  | zero => rfl
  | succ n => simp only [pvalQ]; rw [if_neg h1, if_neg h2]

/-- The program's reading of a piece beside the document's: the same, or the document reads a number that something stands behind which could belong to it. -/
def QRel {α : Type} (s : ByteArray) (r r' : Except Nat (α × Nat × Bool)) : Prop := r' = r ∨ ∃ x, r = .ok x ∧ isNumB (gb s x.2.1) = true ∧ r' = .error x.2.1

theorem QRel.map {α β : Type} {s : ByteArray} {r r' : Except Nat (α × Nat × Bool)} (h : QRel s r r') (f : α → β) : QRel s (r.map fun x => (f x.1, x.2)) (r'.map fun x => (f x.1, x.2)) := by
  rcases h with h | ⟨x, h1, h2, h3⟩
  · left; rw [h]
  · right; rw [h1, h3]; exact ⟨_, rfl, h2, rfl⟩

theorem pleaf_rel (s : ByteArray) (k : Nat) (lg : Bool) : QRel s (pleaf s k lg) (pleafQ s k lg) := by
  unfold pleaf pleafQ
  by_cases h34 : gb s k = 34
  · left; rw [if_pos h34, if_pos h34]
  · rw [if_neg h34, if_neg h34]
    by_cases hd : gb s k = 45 ∨ isDig (gb s k) = true
    · rw [if_pos hd, if_pos hd]
      by_cases hq : (numR s k).2.2 < 0 ∧ isNumB (gb s (numR s k).2.1) = true
      · right
        have hn : numQ s k = ((numR s k).1, (numR s k).2.1, ((numR s k).2.1 : Int)) := by rw [numQ, if_pos hq]
        rw [if_pos hq.1, hn]
        exact ⟨_, rfl, hq.2, by rw [if_neg (by simp only; omega)]; rfl⟩
      · left
        have hn : numQ s k = numR s k := by rw [numQ, if_neg hq]
        rw [hn]
    · left; rw [if_neg hd, if_neg hd]

theorem listF_rel {α : Type} {s : ByteArray} {item itemQ : Nat → Bool → Except Nat (α × Nat × Bool)} (hi : ∀ k lg, QRel s (item k lg) (itemQ k lg)) : ∀ (f : Nat) (fst : Bool) (k : Nat) (lg : Bool) (acc : List α), listF itemQ s f fst k lg acc = listF item s f fst k lg acc
  | 0, fst, k, lg, acc => rfl
  | f + 1, fst, k, lg, acc => by
    rw [listF, listF]
    split
    · rfl
    · split
      · rfl
      · rcases hi (if fst = true then k else k + 1) lg with h | ⟨x, h1, h2, h3⟩
        · rw [h]
          cases item (if fst = true then k else k + 1) lg with
          | error p => rfl
          | ok r => exact listF_rel hi f _ _ _ _
        · rw [h1, h3]
          obtain ⟨n1, n2, n3, n4, n5⟩ := isNumB_ne h2
          show _ = listF item s f false (skip s x.2.1) x.2.2 (acc ++ [x.1])
          rw [skip_no n4]
          cases f with
          | zero => rfl
          | succ f => rw [listF_bad n1 n2]

theorem objF_rel {α : Type} {s : ByteArray} {item itemQ : Nat → Bool → Except Nat (α × Nat × Bool)} (hi : ∀ k lg, QRel s (item k lg) (itemQ k lg)) : ∀ (f : Nat) (fst : Bool) (k : Nat) (lg : Bool) (ks : List ByteArray) (acc : List α), objF itemQ s f fst k lg ks acc = objF item s f fst k lg ks acc
  | 0, fst, k, lg, ks, acc => rfl
  | f + 1, fst, k, lg, ks, acc => by
    rw [objF, objF]
    split
    · rfl
    · split
      · rfl
      · obtain ⟨k0, hk0⟩ : ∃ k0, k0 = skip s (if fst = true then k else k + 1) := ⟨_, rfl⟩
        simp only [← hk0]
        by_cases h1 : 0 ≤ (textR s k0).2.2
        · rw [if_pos h1, if_pos h1]
        · rw [if_neg h1, if_neg h1]
          by_cases h2 : gb s (skip s (textR s k0).2.1) ≠ 58
          · rw [if_pos h2, if_pos h2]
          · rw [if_neg h2, if_neg h2]
            rcases hi (skip s (textR s k0).2.1 + 1) lg with h | ⟨x, h1, h2, h3⟩
            · rw [h]
              cases item (skip s (textR s k0).2.1 + 1) lg with
              | error p => rfl
              | ok r => exact objF_rel hi f _ _ _ _ _
            · rw [h1, h3]
              obtain ⟨n1, n2, n3, n4, n5⟩ := isNumB_ne h2
              simp only
              rw [skip_no n4]
              cases f with
              | zero => rfl
              | succ f => rw [objF_bad n3 n2]

theorem pval_rel : ∀ (n : Nat) (s : ByteArray) (k : Nat) (lg : Bool), QRel s (pval n s k lg) (pvalQ n s k lg)
  | 0, s, k, lg => (pleaf_rel s (skip s k) lg).map _
  | n + 1, s, k, lg => by
    simp only [pval, pvalQ]
    split
    · left; rw [listF_rel (pval_rel n s)]
    · split
      · left; rw [objF_rel (pval_rel n s)]
      · exact (pleaf_rel s (skip s k) lg).map _
/-- What the program reads, the document reads. -/
theorem pval_ofQ {n : Nat} {s : ByteArray} {k : Nat} {lg : Bool} {r : VT n × Nat × Bool} (h : pvalQ n s k lg = .ok r) : pval n s k lg = .ok r := by
  rcases pval_rel n s k lg with h1 | ⟨x, h1, h2, h3⟩
  · rw [← h1]; exact h
  · rw [h3] at h; cases h

end Go.Proofs.YtjaoocincdoaaaaGreatDoor

namespace Go.Proofs.YtjaoocincdoaaaaGreatDoor
open Go.RowKit J

set_option linter.unusedVariables false

/-- The block of the program's reader. -/
def pblk (s : ByteArray) (k : Nat) (op : Int) (lg : Bool) : Obj := .cells #[.string s, .int .i64 k, .int .i64 op, .bool lg] 36 (0, 0)

theorem pcells {w : World} {b : Nat} {s : ByteArray} {k : Nat} {op : Int} {lg : Bool} (h : w.heap[b]? = some (pblk s k op lg)) :
    w.cell? ⟨b, 0, none⟩ = some (.string s) ∧ w.cell? ⟨b, 1, none⟩ = some (.int .i64 k) ∧ w.cell? ⟨b, 2, none⟩ = some (.int .i64 op) ∧ w.cell? ⟨b, 3, none⟩ = some (.bool lg) ∧ ∀ o, w.frozen? ⟨b, o, none⟩ = false := by
  refine ⟨?_, ?_, ?_, ?_, fun o => ?_⟩ <;> simp [World.cell?, World.frozen?, h, pblk]

theorem pset_at {w : World} {b : Nat} {s : ByteArray} {k : Nat} {op : Int} {lg : Bool} (h : w.heap[b]? = some (pblk s k op lg)) (k' : Nat) {i : Int} (e : i = (k' : Int)) :
    (w.setCell ⟨b, 1, none⟩ (.int .i64 i)).heap[b]? = some (pblk s k' op lg) := by subst e; exact heap_setCell_at h _
theorem pset_open {w : World} {b : Nat} {s : ByteArray} {k : Nat} {op : Int} {lg : Bool} (h : w.heap[b]? = some (pblk s k op lg)) (op' : Int) :
    (w.setCell ⟨b, 2, none⟩ (.int .i64 op')).heap[b]? = some (pblk s k op' lg) := heap_setCell_at h _
theorem pset_large {w : World} {b : Nat} {s : ByteArray} {k : Nat} {op : Int} {lg : Bool} (h : w.heap[b]? = some (pblk s k op lg)) (lg' : Bool) :
    (w.setCell ⟨b, 3, none⟩ (.bool lg')).heap[b]? = some (pblk s k op lg') := heap_setCell_at h _

/-- The next byte as the program sees it: 0 at the end. -/
def pk (s : ByteArray) (k : Nat) : Int := if h : k < s.size then ((s[k]'h).toNat : Int) else 0
theorem pk_bd (s : ByteArray) (k : Nat) : 0 ≤ pk s k ∧ pk s k ≤ 255 := by
  unfold pk; split
  · rename_i h; have := (s[k]'h).toNat_lt; omega
  · omega
theorem pk_gb {s : ByteArray} {k : Nat} {c : Int} (hc : 0 < c) : pk s k = c ↔ gb s k = c := by
  unfold pk gb; split <;> omega
theorem pk_eq {s : ByteArray} {k : Nat} : (gb s k = pk s k ∧ 0 ≤ gb s k) ∨ (gb s k = -1 ∧ pk s k = 0) := by
  unfold pk gb; split
  · left; exact ⟨rfl, by omega⟩
  · right; exact ⟨rfl, rfl⟩

/-- The reader stands at k, and the sentinel is J. -/
def PS (w : World) (b : Nat) (s : ByteArray) (k : Nat) (op : Int) (lg : Bool) (J : Addr) : Prop :=
  w.heap[b]? = some (pblk s k op lg) ∧ w.heap[5]? = some (.cells #[.iface 209 (.pointer (some J))] 29 (0, 0)) ∧ b ≠ 5

theorem PS.drewN {w : World} {b : Nat} {s : ByteArray} {k : Nat} {op : Int} {lg : Bool} {J : Addr} (h : PS w b s k op lg J) (n : Nat) : PS (w.drewN n) b s k op lg J := h
theorem PS.at {w : World} {b : Nat} {s : ByteArray} {k : Nat} {op : Int} {lg : Bool} {J : Addr} (h : PS w b s k op lg J) (k' : Nat) {i : Int} (e : i = (k' : Int)) : PS (w.setCell ⟨b, 1, none⟩ (.int .i64 i)) b s k' op lg J :=
  ⟨pset_at h.1 k' e, by rw [Below.heap_setCell _ _ _ _ (fun e => h.2.2 e.symm)]; exact h.2.1, h.2.2⟩
theorem PS.open {w : World} {b : Nat} {s : ByteArray} {k : Nat} {op : Int} {lg : Bool} {J : Addr} (h : PS w b s k op lg J) (op' : Int) : PS (w.setCell ⟨b, 2, none⟩ (.int .i64 op')) b s k op' lg J :=
  ⟨pset_open h.1 op', by rw [Below.heap_setCell _ _ _ _ (fun e => h.2.2 e.symm)]; exact h.2.1, h.2.2⟩
theorem PS.large {w : World} {b : Nat} {s : ByteArray} {k : Nat} {op : Int} {lg : Bool} {J : Addr} (h : PS w b s k op lg J) (lg' : Bool) : PS (w.setCell ⟨b, 3, none⟩ (.bool lg')) b s k op lg' J :=
  ⟨pset_large h.1 lg', by rw [Below.heap_setCell _ _ _ _ (fun e => h.2.2 e.symm)]; exact h.2.1, h.2.2⟩
theorem PS.cell {w : World} {b : Nat} {s : ByteArray} {k : Nat} {op : Int} {lg : Bool} {J : Addr} (h : PS w b s k op lg J) : w.cell? ⟨5, 0, none⟩ = some (.iface 209 (.pointer (some J))) := by
  simp [World.cell?, h.2.1]
theorem PS.keep {w w' : World} {b : Nat} {s : ByteArray} {k : Nat} {op : Int} {lg : Bool} {J : Addr} {S : Nat → Prop} (h : PS w b s k op lg J) (hc : Chg S w w') (hb : ¬ S b) (hg : ¬ S 5) : PS w' b s k op lg J :=
  ⟨(hc.block b (lt_of_heap h.1) hb).trans h.1, (hc.block _ (lt_of_heap h.2.1) hg).trans h.2.1, h.2.2⟩

/-- What 'wrong' hands up. -/
def errV (J : Addr) (k : Nat) : Value := .iface 40 (.agg #[.int .i64 k, .iface 209 (.pointer (some J))])

set_option maxHeartbeats 400000 in
theorem peek_any (b : Nat) (s : ByteArray) (k : Nat) (op : Int) (lg : Bool) (w : World) {J : Addr} (hp : PS w b s k op lg J) (hk : k ≤ s.size) (hs : s.size ≤ 1000) :
    Calls Tryz.prog 20 #[.pointer (some ⟨b, 0, none⟩)] w fun e w' => e = .returned (.int .u8 (pk s k)) ∧ ∃ n, w' = w.drewN n := by
  obtain ⟨h0, h1, h2, h3, hf⟩ := pcells hp.1
  clear hp h2 h3 hf
  by_cases hlt : k < s.size
  · have hne : ((k : Int) == (s.size : Int)) = false := beq_eq_false_iff_ne.2 (by omega)
    have HC : Hid (pk s k = ((s[k]'hlt).toNat : Int)) := by show _ = _; rw [pk, dif_pos hlt]
    go_enter Tryz.func20, Tryz.ntmps20
    go_wp2
    go_quiet (fail)
    go_wp2
    go_quiet (fail)
    go_wp2
    go_ret
    exact ⟨by rw [HC.out]; rfl, _, World.drewN_drewN _ _ _⟩
  · have hke : k = s.size := by omega
    subst hke
    have HC : Hid (pk s s.size = 0) := by show _ = _; rw [pk, dif_neg (by omega)]
    go_enter Tryz.func20, Tryz.ntmps20
    go_wp2
    go_quiet (fail)
    go_wp2
    go_ret
    exact ⟨by rw [HC.out]; rfl, _, rfl⟩

set_option maxHeartbeats 400000 in
theorem wrong_any (b : Nat) (s : ByteArray) (k : Nat) (op : Int) (lg : Bool) (w : World) {J : Addr} (hp : PS w b s k op lg J) :
    Calls Tryz.prog 13 #[.pointer (some ⟨b, 0, none⟩)] w fun e w' => e = .returned (errV J k) ∧ ∃ n, w' = w.drewN n := by
  obtain ⟨h0, h1, h2, h3, hf⟩ := pcells hp.1
  have hJ := hp.cell
  clear hp h2 h3 hf
  go_enter Tryz.func13, Tryz.ntmps13
  go_wp2
  go_quiet (fail)
  go_wp2
  go_ret
  exact ⟨rfl, _, rfl⟩

set_option maxHeartbeats 400000 in
theorem ptake_yes (b : Nat) (s : ByteArray) (k : Nat) (op : Int) (lg : Bool) (c : Int) (w : World) {J : Addr} (hp : PS w b s k op lg J) (hk : k ≤ s.size) (hs : s.size ≤ 1000) (hc : pk s k = c) :
    Calls Tryz.prog 19 #[.pointer (some ⟨b, 0, none⟩), .int .u8 c] w fun e w' => e = .returned (.bool true) ∧ But b w w' ∧ PS w' b s (k + 1) op lg J := by
  obtain ⟨h0, h1, h2, h3, hf⟩ := pcells hp.1
  have HP : Hid (PS w b s k op lg J) := hp
  have HC : Hid (pk s k = c) := hc
  clear hp h0 h2 h3 hc
  go_enter Tryz.func19, Tryz.ntmps19
  go_wp2_with (go_at_call 20; refine (peek_any b s k op lg _ HP.out hk hs).mono ?_; rintro e w' ⟨rfl, n, rfl⟩; rw [HC.out])
  go_ret
  exact ⟨rfl, ((But.refl _ _).drewN _).setCell _ _, (HP.out.drewN _).at (k + 1) (by omega)⟩

set_option maxHeartbeats 400000 in
theorem ptake_no (b : Nat) (s : ByteArray) (k : Nat) (op : Int) (lg : Bool) (c : Int) (w : World) {J : Addr} (hp : PS w b s k op lg J) (hk : k ≤ s.size) (hs : s.size ≤ 1000) (hc : pk s k ≠ c) :
    Calls Tryz.prog 19 #[.pointer (some ⟨b, 0, none⟩), .int .u8 c] w fun e w' => e = .returned (.bool false) ∧ But b w w' ∧ PS w' b s k op lg J := by
  have HP : Hid (PS w b s k op lg J) := hp
  have hne : (pk s k != c) = true := by rw [bne_iff_ne]; exact hc
  clear hp hc
  go_enter Tryz.func19, Tryz.ntmps19
  go_wp2_with (go_at_call 20; refine (peek_any b s k op lg _ HP.out hk hs).mono ?_; rintro e w' ⟨rfl, n, rfl⟩)
  go_ret
  exact ⟨rfl, (But.refl _ _).drewN _, HP.out.drewN _⟩

/-- 'take' as a function of the place. -/
def ptakeR (s : ByteArray) (k : Nat) (c : Int) : Bool × Nat := if pk s k = c then (true, k + 1) else (false, k)

theorem ptake_ex (b : Nat) (s : ByteArray) (k : Nat) (op : Int) (lg : Bool) (c : Int) (w : World) {J : Addr} (hp : PS w b s k op lg J) (hk : k ≤ s.size) (hs : s.size ≤ 1000) :
    Calls Tryz.prog 19 #[.pointer (some ⟨b, 0, none⟩), .int .u8 c] w fun e w' => ∃ t k', e = .returned (.bool t) ∧ But b w w' ∧ PS w' b s k' op lg J ∧ Hid (ptakeR s k c = (t, k')) := by
  by_cases h : pk s k = c
  · refine (ptake_yes b s k op lg c w hp hk hs h).mono ?_
    rintro e w' ⟨rfl, h1, h2⟩
    exact ⟨true, k + 1, rfl, h1, h2, by show _ = _; rw [ptakeR, if_pos h]⟩
  · refine (ptake_no b s k op lg c w hp hk hs h).mono ?_
    rintro e w' ⟨rfl, h1, h2⟩
    exact ⟨false, k, rfl, h1, h2, by show _ = _; rw [ptakeR, if_neg h]⟩

set_option maxHeartbeats 1000000 in
theorem pblanks_any (b : Nat) (s : ByteArray) (k : Nat) (op : Int) (lg : Bool) (w : World) {J : Addr} (hp : PS w b s k op lg J) (hk : k ≤ s.size) (hs : s.size ≤ 1000) :
    Calls Tryz.prog 11 #[.pointer (some ⟨b, 0, none⟩)] w fun e w' => e = .returned (.tuple #[]) ∧ But b w w' ∧ PS w' b s (skip s k) op lg J := by
  go_enter Tryz.func11, Tryz.ntmps11
  go_wp2_with fail
  go_loopg [] (s.size - k) (fun g wr => ∃ j : Nat, g = s.size - j ∧ j ≤ s.size ∧ skip s j = skip s k ∧ But b w wr ∧ PS wr b s j op lg J)
  case atStart => exact ⟨k, rfl, hk, rfl, But.refl _ _, hp⟩
  case round =>
    obtain ⟨j, hg, hj, hsk, hbut, hp1⟩ := hrel
    clear hp
    have HP : Hid (PS wr b s j op lg J) := hp1
    have HG : Hid (gk = s.size - j) := hg
    have HS : Hid (skip s j = skip s k) := hsk
    obtain ⟨c, hc⟩ : ∃ c, c = pk s j := ⟨_, rfl⟩
    have hcg : ∀ y : Int, 0 < y → c = y → gb s j = y := fun y hy h => (pk_gb hy).1 (by rw [← hc]; exact h)
    have hcg2 : ∀ y : Int, 0 < y → c ≠ y → gb s j ≠ y := fun y hy h e => h (by rw [hc]; exact (pk_gb hy).2 e)
    have HCG : Hid (∀ y : Int, 0 < y → c = y → gb s j = y) := hcg
    have HCG2 : Hid (∀ y : Int, 0 < y → c ≠ y → gb s j ≠ y) := hcg2
    have HC : Hid (pk s j = c) := hc.symm
    clear hp1 hg hsk hc hcg hcg2
    rcases (show c = 32 ∨ c = 9 ∨ c = 10 ∨ c = 13 ∨ (c ≠ 32 ∧ c ≠ 9 ∧ c ≠ 10 ∧ c ≠ 13) from by omega) with rfl | rfl | rfl | rfl | hn
    · have hgb := HCG.out 32 (by omega) rfl
      have hjs := lt_of_gb (s := s) (k := j) (by omega)
      have HGB : Hid (isBl (gb s j) = true) := by show _ = _; rw [hgb]; rfl
      clear hgb HCG HCG2
      go_wp2_with fail
      refine (ptake_yes b s j op lg 32 _ HP.out hj hs HC.out).mono ?_
      rintro e w1 ⟨rfl, hb1, hp1⟩
      go_wp2_with fail
      go_roundg (s.size - (j + 1))
      case measure => rw [HG.out]; omega
      case rel => exact ⟨j + 1, rfl, hjs, by rw [← HS.out]; exact (skip_bl HGB.out).symm, hbut.trans hb1, hp1⟩
    · have hgb := HCG.out 9 (by omega) rfl
      have hjs := lt_of_gb (s := s) (k := j) (by omega)
      have HGB : Hid (isBl (gb s j) = true) := by show _ = _; rw [hgb]; rfl
      clear hgb HCG HCG2
      go_wp2_with fail
      refine (ptake_no b s j op lg 32 _ HP.out hj hs (by rw [HC.out]; decide)).mono ?_
      rintro e w1 ⟨rfl, hb1, hp1⟩
      go_wp2_with fail
      refine (ptake_yes b s j op lg 9 _ hp1 hj hs HC.out).mono ?_
      rintro e w2 ⟨rfl, hb2, hp2⟩
      go_wp2_with fail
      go_roundg (s.size - (j + 1))
      case measure => rw [HG.out]; omega
      case rel => exact ⟨j + 1, rfl, hjs, by rw [← HS.out]; exact (skip_bl HGB.out).symm, (hbut.trans hb1).trans hb2, hp2⟩
    · have hgb := HCG.out 10 (by omega) rfl
      have hjs := lt_of_gb (s := s) (k := j) (by omega)
      have HGB : Hid (isBl (gb s j) = true) := by show _ = _; rw [hgb]; rfl
      clear hgb HCG HCG2
      go_wp2_with fail
      refine (ptake_no b s j op lg 32 _ HP.out hj hs (by rw [HC.out]; decide)).mono ?_
      rintro e w1 ⟨rfl, hb1, hp1⟩
      go_wp2_with fail
      refine (ptake_no b s j op lg 9 _ hp1 hj hs (by rw [HC.out]; decide)).mono ?_
      rintro e w2 ⟨rfl, hb2, hp2⟩
      go_wp2_with fail
      refine (ptake_yes b s j op lg 10 _ hp2 hj hs HC.out).mono ?_
      rintro e w3 ⟨rfl, hb3, hp3⟩
      go_wp2_with fail
      go_roundg (s.size - (j + 1))
      case measure => rw [HG.out]; omega
      case rel => exact ⟨j + 1, rfl, hjs, by rw [← HS.out]; exact (skip_bl HGB.out).symm, ((hbut.trans hb1).trans hb2).trans hb3, hp3⟩
    · have hgb := HCG.out 13 (by omega) rfl
      have hjs := lt_of_gb (s := s) (k := j) (by omega)
      have HGB : Hid (isBl (gb s j) = true) := by show _ = _; rw [hgb]; rfl
      clear hgb HCG HCG2
      go_wp2_with fail
      refine (ptake_no b s j op lg 32 _ HP.out hj hs (by rw [HC.out]; decide)).mono ?_
      rintro e w1 ⟨rfl, hb1, hp1⟩
      go_wp2_with fail
      refine (ptake_no b s j op lg 9 _ hp1 hj hs (by rw [HC.out]; decide)).mono ?_
      rintro e w2 ⟨rfl, hb2, hp2⟩
      go_wp2_with fail
      refine (ptake_no b s j op lg 10 _ hp2 hj hs (by rw [HC.out]; decide)).mono ?_
      rintro e w3 ⟨rfl, hb3, hp3⟩
      go_wp2_with fail
      refine (ptake_yes b s j op lg 13 _ hp3 hj hs HC.out).mono ?_
      rintro e w4 ⟨rfl, hb4, hp4⟩
      go_wp2_with fail
      go_roundg (s.size - (j + 1))
      case measure => rw [HG.out]; omega
      case rel => exact ⟨j + 1, rfl, hjs, by rw [← HS.out]; exact (skip_bl HGB.out).symm, (((hbut.trans hb1).trans hb2).trans hb3).trans hb4, hp4⟩
    · have hfin : Hid (skip s k = j) := by
        show skip s k = j; rw [← HS.out]; apply skip_no
        have h1 := HCG2.out 32 (by omega) hn.1
        have h2 := HCG2.out 9 (by omega) hn.2.1
        have h3 := HCG2.out 10 (by omega) hn.2.2.1
        have h4 := HCG2.out 13 (by omega) hn.2.2.2
        simp [isBl, h1, h2, h3, h4]
      have HN : Hid (c ≠ 32 ∧ c ≠ 9 ∧ c ≠ 10 ∧ c ≠ 13) := hn
      clear hn HCG HCG2
      go_wp2_with fail
      refine (ptake_no b s j op lg 32 _ HP.out hj hs (by rw [HC.out]; exact HN.out.1)).mono ?_
      rintro e w1 ⟨rfl, hb1, hp1⟩
      go_wp2_with fail
      refine (ptake_no b s j op lg 9 _ hp1 hj hs (by rw [HC.out]; exact HN.out.2.1)).mono ?_
      rintro e w2 ⟨rfl, hb2, hp2⟩
      go_wp2_with fail
      refine (ptake_no b s j op lg 10 _ hp2 hj hs (by rw [HC.out]; exact HN.out.2.2.1)).mono ?_
      rintro e w3 ⟨rfl, hb3, hp3⟩
      go_wp2_with fail
      refine (ptake_no b s j op lg 13 _ hp3 hj hs (by rw [HC.out]; exact HN.out.2.2.2)).mono ?_
      rintro e w4 ⟨rfl, hb4, hp4⟩
      go_wp2_with fail
      go_end0
      exact ⟨rfl, (((hbut.trans hb1).trans hb2).trans hb3).trans hb4, by rw [hfin.out]; exact hp4⟩

end Go.Proofs.YtjaoocincdoaaaaGreatDoor
