/- The program's numbers, written: below nought. The program's truths, written. The program's values in memory: what an interface value stands for. The program's objects: 'Put'. Where the document's reader has found something wrong, there it stands. The program's reader: a row of things, whatever a thing is. -/
import Derived.Test.YtjaoocincdoaaaaGreatDoorA13
namespace Go.Proofs.YtjaoocincdoaaaaGreatDoor
open Go.RowKit J

set_option linter.unusedVariables false

set_option maxHeartbeats 4000000 in
theorem appendNumber_neg (m : Nat) (h0 : 0 < m) (hm : m ≤ 1000000000000000) (w : World) (N : Nat) (out : Value) (l : List UInt8) (hN : N ≤ w.heap.size) (hown : OB w N out l) (hlen : l.length ≤ 700000) (hp : Pow10 N w) :
    Calls Tryz.prog 32 #[out, .int .i64 (-(m : Int))] w fun e w' => ∃ out', e = .returned out' ∧ OB w' N out' (l ++ decB (-(m : Int))) ∧ Below N w w' ∧ N ≤ w'.heap.size := by
  have HP : Hid (Pow10 N w) := hp
  have HO : Hid (OB w N out l) := hown
  obtain ⟨q, hq⟩ : ∃ q, q = m / 1000000 := ⟨_, rfl⟩
  obtain ⟨r, hr⟩ : ∃ r, r = m % 1000000 := ⟨_, rfl⟩
  have hmi : (m : Int) = (q : Int) * 1000000 + (r : Int) := by omega
  have hr6 : r < 1000000 := by omega
  have hq0 : (m : Int).tdiv 1000000 = (q : Int) := by rw [Int.tdiv_eq_ediv_of_nonneg (by omega)]; omega
  have hr0 : (m : Int).tmod 1000000 = (r : Int) := by rw [Int.tmod_eq_emod_of_nonneg (by omega)]; omega
  have hqb : q ≤ 1000000000 := by omega
  have HB : Hid (decB (-(m : Int)) = [45] ++ digB q 1 ++ (if trim0 (digB r 6) = [] then [] else 46 :: trim0 (digB r 6))) := by
    show _ = _
    rw [decB, if_pos (by omega), show (-(m : Int)).natAbs = m by omega, hq, hr]
  clear hp hown hq hr hmi
  go_enter Tryz.func32, Tryz.ntmps32
  go_wp2_with (at_builtin; refine app_bytes rfl (.tmp 9) (.tmp 10) rfl N out l rfl ?n1 _ _ _ [45] rfl rfl ?n2 ?n3 ?n4 ?_)
  case n1 => exact HO.out.alloc _
  case n2 => exact one_new rfl _ _ rfl
  case n3 => simp; omega
  case n4 => simp; omega
  intro o0 w0 hown0 hgr0
  have hB0 : Below N w w0 := ((Below.refl N w).alloc hN _).grown hgr0 (by simp; omega) HO.out.below
  have hs0 : N ≤ w0.heap.size := by have := hgr0.size; simp at this; omega
  have HP0 : Hid (Pow10 N w0) := HP.out.on hB0
  clear hgr0
  go_wp2_with fail
  refine (appInt_any q (by omega) w0 N o0 (l ++ [45]) hs0 hown0 (by simp; omega) HP0.out).mono ?_
  rintro e w1 ⟨o1, rfl, hown1, hb1', hs1⟩
  have hb1 : Below N w w1 := hB0.trans hb1'
  clear hb1' hown0
  have hl1 : (digB q 1).length ≤ 40 := digF_len2 40 q 1 []
  by_cases hr : r = 0
  · subst hr
    have HF : Hid (l ++ [45] ++ digB q 1 = l ++ decB (-(m : Int))) := by show _ = _; rw [HB.out, if_pos (by decide)]; simp
    go_wp2_with fail
    go_ret
    exact ⟨o1, rfl, HF.out ▸ hown1, hb1, hs1⟩
  · have hrb : ((r : Int) == 0) = false := beq_eq_false_iff_ne.2 (by omega)
    have HF : Hid (l ++ [45] ++ digB q 1 ++ [46] ++ trim0 (digB r 6) = l ++ decB (-(m : Int))) := by show _ = _; rw [HB.out, if_neg (trim_six hr6 hr)]; simp
    have HP1 : Hid (Pow10 N w1) := HP.out.on hb1
    go_wp2_with fail
    refine (fmtInt_any r hr6 w1 N hs1 HP1.out).mono ?_
    rintro e w2 ⟨⟨t, rfl, ht1, ht2⟩, hb2⟩
    have szt : (bs t).size = 7 := by rw [bs_size]; exact ht2
    have hxt : (bs t).extract 1 7 = bs (digB r 6) := by
      rw [← ht1]
      apply ByteArray.ext
      rw [ByteArray.data_extract]
      simp [bs, List.extract_toArray, ← ht2]
      exact List.take_of_length_le (by simp)
    have HXT : Hid ((bs t).extract 1 7 = bs (digB r 6)) := hxt
    have h6 : (digB r 6).length = 6 := (digB_six r hr6).2.1
    have hB2 : Below N w w2 := hb1.trans (hb2.mono hs1)
    have hs2 : N ≤ w2.heap.size := Nat.le_trans hs1 hb2.size
    have hown2 : OB w2 N o1 (l ++ [45] ++ digB q 1) :=
      World.ownsRow.kept (row := none) hown1 ⟨hb2.os, hb2.tape, hb2.output, hb2.size, fun k hk _ => hb2.block k hk⟩ (by
        cases hv : o1.ownBlock with
        | none => exact Or.inl rfl
        | some g => right; simp)
    clear hxt ht1 ht2 hb2 hown1
    go_wp2_with (at_builtin; refine app_bytes rfl (.tmp 27) (.tmp 28) rfl N o1 (l ++ [45] ++ digB q 1) rfl ?h1 _ _ _ [46] rfl rfl ?h2 ?h3 ?h4 ?_)
    case h1 => exact hown2.alloc _
    case h2 => exact one_new rfl _ _ rfl
    case h3 => simp; omega
    case h4 => simp; omega
    intro o3 w3 hown3 hgr
    have hB3 : Below N w w3 := (hB2.alloc hs2 _).grown hgr (by simp; omega) hown2.below
    have hs3 : N ≤ w3.heap.size := by have := hgr.size; simp at this; omega
    clear hgr hown2
    go_wp2_with fail
    rw [HXT.out]
    refine (wtrim (digB r 6) _ (by omega)).mono ?_
    rintro e w4 ⟨rfl, rfl⟩
    have htl : (bs (trim0 (digB r 6))).size ≤ 6 := by
      rw [bs_size]
      have : (trim0 (digB r 6)).length ≤ (digB r 6).length := by
        unfold trim0
        rw [List.length_reverse]
        have := (List.dropWhile_sublist (fun c : UInt8 => c == 48) (l := (digB r 6).reverse)).length_le
        rw [List.length_reverse] at this
        exact this
      omega
    go_wp2_with (at_builtin; refine app_str rfl (.tmp 30) (.tmp 32) rfl N o3 (l ++ [45] ++ digB q 1 ++ [46]) rfl ?k1 (bs (trim0 (digB r 6))) rfl ?k2 ?k3 ?_)
    case k1 => simpa using hown3
    case k2 => simp; omega
    case k3 => exact hs3
    intro o5 w5 hown5 hgr5
    have hB5 : Below N w w5 := hB3.grown hgr5 hs3 hown3.below
    have hs5 : N ≤ w5.heap.size := Nat.le_trans hs3 hgr5.size
    clear hgr5
    go_wp2_with fail
    go_ret
    refine ⟨o5, rfl, ?_, hB5, hs5⟩
    rw [← HF.out]
    simpa [bs] using hown5

end Go.Proofs.YtjaoocincdoaaaaGreatDoor

namespace Go.Proofs.YtjaoocincdoaaaaGreatDoor
open Go.RowKit J

set_option linter.unusedVariables false

def trueL : List UInt8 := [116, 114, 117, 101]
def falseL : List UInt8 := [102, 97, 108, 115, 101]

set_option maxHeartbeats 1000000 in
theorem ibool_any (t : Bool) (w : World) (N : Nat) (out : Value) (l : List UInt8) (hN : N ≤ w.heap.size) (hown : OB w N out l) (hlen : l.length ≤ 900000) :
    Calls Tryz.prog 47 #[out, .bool t] w fun e w' => ∃ out', e = .returned out' ∧ OB w' N out' (l ++ (if t then trueL else falseL)) ∧ Below N w w' ∧ N ≤ w'.heap.size := by
  cases t
  · go_enter Tryz.func47, Tryz.ntmps47
    go_wp2_with (at_builtin; refine app_str rfl (.tmp 8) (.const (.string ⟨#[102, 97, 108, 115, 101]⟩)) rfl N out l rfl ?k1 ⟨#[102, 97, 108, 115, 101]⟩ rfl ?k2 ?k3 ?_)
    case k1 => exact hown
    case k2 => show l.length + 5 ≤ 1000000; omega
    case k3 => exact hN
    intro o5 w5 hown5 hgr5
    have hB5 : Below N w w5 := (Below.refl N w).grown hgr5 hN hown.below
    have hs5 : N ≤ w5.heap.size := Nat.le_trans hN hgr5.size
    clear hgr5
    go_wp2_with fail
    go_ret
    exact ⟨o5, rfl, hown5, hB5, hs5⟩
  · go_enter Tryz.func47, Tryz.ntmps47
    go_wp2_with (at_builtin; refine app_str rfl (.tmp 6) (.const (.string ⟨#[116, 114, 117, 101]⟩)) rfl N out l rfl ?k1 ⟨#[116, 114, 117, 101]⟩ rfl ?k2 ?k3 ?_)
    case k1 => exact hown
    case k2 => show l.length + 4 ≤ 1000000; omega
    case k3 => exact hN
    intro o5 w5 hown5 hgr5
    have hB5 : Below N w w5 := (Below.refl N w).grown hgr5 hN hown.below
    have hs5 : N ≤ w5.heap.size := Nat.le_trans hN hgr5.size
    clear hgr5
    go_wp2_with fail
    go_ret
    exact ⟨o5, rfl, hown5, hB5, hs5⟩

set_option maxHeartbeats 1000000 in
theorem abool_any (t : Bool) (w : World) (N : Nat) (out : Value) (l : List UInt8) (hN : N ≤ w.heap.size) (hown : OB w N out l) (hlen : l.length ≤ 900000) :
    Calls Tryz.prog 31 #[out, .bool t] w fun e w' => ∃ out', e = .returned out' ∧ OB w' N out' (l ++ (if t then trueL else falseL)) ∧ Below N w w' ∧ N ≤ w'.heap.size := by
  cases t
  all_goals
    go_enter Tryz.func31, Tryz.ntmps31
    go_wp2_with fail
    refine (ibool_any _ w N out l hN hown hlen).mono ?_
    rintro e w1 ⟨o1, rfl, h1, h2, h3⟩
    go_wp2_with fail
    go_ret
    exact ⟨o1, rfl, h1, h2, h3⟩

end Go.Proofs.YtjaoocincdoaaaaGreatDoor

namespace Go.Proofs.YtjaoocincdoaaaaGreatDoor
open Go.RowKit J

set_option linter.unusedVariables false

theorem hid_of {p : Prop} (h : p) : Hid p := h

/-- A leaf as the program has it. -/
def plf (l : Lf) : Value :=
  match (l : Unit ⊕ (Bool ⊕ (Int ⊕ ByteArray))) with
  | Sum.inl _ => .iface 54 (.agg #[])
  | Sum.inr (Sum.inl t) => .iface 56 (.bool t)
  | Sum.inr (Sum.inr (Sum.inl n)) => .iface 76 (.int .i64 n)
  | Sum.inr (Sum.inr (Sum.inr s)) => .iface 59 (.string s)

/-- Members as cells. -/
def mv : List ByteArray → List Value → List Value
  | k :: ks, x :: xs => .string k :: x :: mv ks xs
  | _, _ => []

theorem mv_length : ∀ (ks : List ByteArray) (xs : List Value), ks.length = xs.length → (mv ks xs).length = xs.length * 2
  | [], [], _ => rfl
  | k :: ks, x :: xs, h => by simp only [mv, List.length_cons, mv_length ks xs (by simpa using h)]; omega
  | [], x :: xs, h => by simp at h
  | k :: ks, [], h => by simp at h
theorem mv_snoc : ∀ (ks : List ByteArray) (xs : List Value) (k : ByteArray) (x : Value), ks.length = xs.length → mv (ks ++ [k]) (xs ++ [x]) = mv ks xs ++ [.string k, x]
  | [], [], k, x, _ => rfl
  | k' :: ks, y :: xs, k, x, h => by simp only [List.cons_append, mv, mv_snoc ks xs k x (by simpa using h)]
  | [], x :: xs, _, _, h => by simp at h
  | k :: ks, [], _, _, h => by simp at h
theorem mv_key : ∀ (ks : List ByteArray) (xs : List Value) (i : Nat) (k : ByteArray), ks.length = xs.length → ks[i]? = some k → (mv ks xs)[i * 2]? = some (.string k)
  | k' :: ks, y :: xs, 0, k, h, hk => by simp at hk; simp [mv, hk]
  | k' :: ks, y :: xs, i + 1, k, h, hk => by
    have ih := mv_key ks xs i k (by simpa using h) (by simpa using hk)
    simp only [mv]
    rw [show (i + 1) * 2 = i * 2 + 1 + 1 by omega, List.getElem?_cons_succ, List.getElem?_cons_succ]
    exact ih
  | [], _, _, k, h, hk => by simp at hk
  | k :: ks, [], _, _, h, _ => by simp at h
theorem mv_val : ∀ (ks : List ByteArray) (xs : List Value) (i : Nat) (x : Value), ks.length = xs.length → xs[i]? = some x → (mv ks xs)[i * 2 + 1]? = some x
  | k' :: ks, y :: xs, 0, x, h, hk => by simp at hk; simp [mv, hk]
  | k' :: ks, y :: xs, i + 1, x, h, hk => by
    have ih := mv_val ks xs i x (by simpa using h) (by simpa using hk)
    simp only [mv]
    rw [show (i + 1) * 2 + 1 = i * 2 + 1 + 1 + 1 by omega, List.getElem?_cons_succ, List.getElem?_cons_succ]
    exact ih
  | _, [], _, x, h, hk => by simp at hk
  | [], y :: xs, _, _, h, _ => by simp at h
theorem mv_set : ∀ (ks : List ByteArray) (xs : List Value) (i : Nat) (x : Value), ks.length = xs.length → (mv ks xs).set (i * 2 + 1) x = mv ks (xs.set i x)
  | k' :: ks, y :: xs, 0, x, h => by simp [mv]
  | k' :: ks, y :: xs, i + 1, x, h => by
    have ih := mv_set ks xs i x (by simpa using h)
    simp only [mv, List.set_cons_succ]
    rw [show (i + 1) * 2 = i * 2 + 1 + 1 by omega, List.set_cons_succ, ih]
  | [], [], _, _, _ => by simp [mv]
  | [], y :: xs, _, _, h => by simp at h
  | k :: ks, [], _, _, h => by simp at h

/-- A row of members. -/
def Mem (w : World) (v : Value) (ks : List ByteArray) (xs : List Value) : Prop := ks.length = xs.length ∧ w.ownsRow 0 114 2 v xs.length (mv ks xs)

theorem Mem.nil (w : World) : Mem w (.slice none 0 0) [] [] := ⟨rfl, World.ownsRow_nil _ _ _ _⟩
theorem Mem.same {w w' : World} {v : Value} {ks : List ByteArray} {xs : List Value} (h : Mem w v ks xs) (hs : ∀ k, v.ownBlock = some k → w'.heap[k]? = w.heap[k]?) : Mem w' v ks xs := by
  refine ⟨h.1, h.2.1, ?_⟩
  rcases h.2.2 with h2 | ⟨g, cap, cur, rfl, h0, hg, r⟩
  · exact .inl h2
  · exact .inr ⟨g, cap, cur, rfl, h0, by rw [hs g rfl]; exact hg, r⟩
theorem Mem.lt {w : World} {v : Value} {ks : List ByteArray} {xs : List Value} (h : Mem w v ks xs) {k : Nat} (hk : v.ownBlock = some k) : k < w.heap.size := (World.ownsRow.lt h.2 k hk).2
theorem Mem.kept {w w' : World} {v : Value} {ks : List ByteArray} {xs : List Value} {S : Nat → Prop} (h : Mem w v ks xs) (hc : Chg S w w') (hn : ∀ k, v.ownBlock = some k → ¬ S k) : Mem w' v ks xs :=
  h.same (fun k hk => hc.block k (h.lt hk) (hn k hk))
theorem Mem.len {w : World} {v : Value} {ks : List ByteArray} {xs : List Value} (h : Mem w v ks xs) : (v = .slice none 0 0 ∧ xs = []) ∨ ∃ g cap, v = .slice (some ⟨g, 0, none⟩) xs.length cap ∧ xs.length ≤ cap := by
  rcases h.2.2 with ⟨h2, h3⟩ | ⟨g', cap', cur, h2, h0, hg, hc, r⟩
  · exact Or.inl ⟨h2, List.eq_nil_of_length_eq_zero h3⟩
  · exact Or.inr ⟨g', cap', h2, hc⟩
theorem Mem.get {w : World} {g n cap : Nat} {ks : List ByteArray} {xs : List Value} (h : Mem w (.slice (some ⟨g, 0, none⟩) n cap) ks xs) {i : Nat} {u : Value} (hu : (mv ks xs)[i]? = some u) : w.cell? ⟨g, i, none⟩ = some u := by
  have := World.ownsRow.cells h.2 (g := g) rfl i u hu
  rw [Addr.add_lit] at this
  simpa using this
theorem Mem.free {w : World} {g n cap : Nat} {ks : List ByteArray} {xs : List Value} (h : Mem w (.slice (some ⟨g, 0, none⟩) n cap) ks xs) : ∀ o, w.frozen? ⟨g, o, none⟩ = false := by
  rcases h.2.2 with ⟨h2, _⟩ | ⟨g', cap', cur, h2, h0, hg, r⟩
  · cases h2
  · injection h2 with h3 h4 h5
    injection h3 with h3
    injection h3 with h3
    subst h3
    intro o; simp [World.frozen?, hg]
theorem Mem.set {w : World} {g n cap : Nat} {ks : List ByteArray} {xs : List Value} (h : Mem w (.slice (some ⟨g, 0, none⟩) n cap) ks xs) (i : Nat) (u : Value) : Mem (w.setCell ⟨g, i * 2 + 1, none⟩ u) (.slice (some ⟨g, 0, none⟩) n cap) ks (xs.set i u) := by
  refine ⟨by rw [List.length_set]; exact h.1, ?_⟩
  rw [← mv_set ks xs i u h.1, List.length_set]
  refine ⟨by rw [List.length_set]; exact h.2.1, ?_⟩
  rcases h.2.2 with ⟨h2, _⟩ | ⟨g', cap', cur, h2, h0, hg, hc, hm, hsz, htk⟩
  · cases h2
  · injection h2 with h3 h4 h5
    injection h3 with h3
    injection h3 with h3
    subst h3
    refine Or.inr ⟨g, cap', cur.setIfInBounds (i * 2 + 1) u, by rw [h4, h5], h0, heap_setCell_at hg u, hc, hm, by simpa using hsz, ?_⟩
    rw [Array.toList_setIfInBounds, List.take_set, htk]

/-- x stands for v; all its blocks are of A. -/
def RefP : (n : Nat) → World → (Nat → Prop) → VT n → Value → Prop
  | 0, w, A, v, x => x = plf v
  | n + 1, w, A, v, x =>
    match (v : Lf ⊕ (List (VT n) ⊕ (List ByteArray × List (VT n)))) with
    | Sum.inl l => x = plf l
    | Sum.inr (Sum.inl vs) => ∃ sl xs, x = .iface 80 sl ∧ Row w 27 sl xs ∧ (∀ g, sl.ownBlock = some g → A g) ∧ All2 (RefP n w A) vs xs
    | Sum.inr (Sum.inr (ks, vs)) => ∃ sl xs, x = .iface 83 sl ∧ Mem w sl ks xs ∧ (∀ g, sl.ownBlock = some g → A g) ∧ All2 (RefP n w A) vs xs

/-- What x stands for hangs on its own blocks alone. -/
theorem RefP.keep : ∀ (n : Nat) {w w' : World} {A B : Nat → Prop} {v : VT n} {x : Value}, RefP n w A v x → (∀ k, A k → k < w.heap.size → w'.heap[k]? = w.heap[k]? ∧ B k) → RefP n w' B v x
  | 0, w, w', A, B, v, x, h, hk => h
  | n + 1, w, w', A, B, v, x, h, hk => by
    match v, h with
    | Sum.inl l, h => exact h
    | Sum.inr (Sum.inl vs), h =>
      obtain ⟨sl, xs, hx, hr, hl, hall⟩ := h
      exact ⟨sl, xs, hx, hr.same (fun g hg => (hk g (hl g hg) (hr.lt hg)).1), fun g hg => (hk g (hl g hg) (hr.lt hg)).2, hall.mono (fun a b hab => RefP.keep n hab hk)⟩
    | Sum.inr (Sum.inr (ks, vs)), h =>
      obtain ⟨sl, xs, hx, hr, hl, hall⟩ := h
      exact ⟨sl, xs, hx, hr.same (fun g hg => (hk g (hl g hg) (hr.lt hg)).1), fun g hg => (hk g (hl g hg) (hr.lt hg)).2, hall.mono (fun a b hab => RefP.keep n hab hk)⟩
theorem all2_keepP {n : Nat} {w w' : World} {A B : Nat → Prop} {vs : List (VT n)} {xs : List Value} (h : All2 (RefP n w A) vs xs) (hk : ∀ k, A k → k < w.heap.size → w'.heap[k]? = w.heap[k]? ∧ B k) : All2 (RefP n w' B) vs xs :=
  h.mono (fun a b hab => RefP.keep n hab hk)
theorem RefP.leaf (n : Nat) (w : World) (A : Nat → Prop) (l : Lf) : RefP n w A (VT.leaf n l) (plf l) := by
  cases n with
  | zero => exact rfl
  | succ n => exact rfl
/-- An interface's value. -/
def IsIf (x : Value) : Prop := x = .nilIface ∨ ∃ t v, x = .iface t v
theorem IsIf.one {x : Value} (h : IsIf x) : x.oneCell' = true := by rcases h with rfl | ⟨t, v, rfl⟩ <;> rfl
theorem plf_if (l : Lf) : IsIf (plf l) := by unfold plf; split <;> exact .inr ⟨_, _, rfl⟩

theorem RefP.isif : ∀ (n : Nat) {w : World} {A : Nat → Prop} {v : VT n} {x : Value}, RefP n w A v x → IsIf x
  | 0, w, A, v, x, h => by have h' : x = plf v := h; rw [h']; exact plf_if v
  | n + 1, w, A, v, x, h => by
    match v, h with
    | Sum.inl l, h => have h' : x = plf l := h; rw [h']; exact plf_if l
    | Sum.inr (Sum.inl vs), h => obtain ⟨sl, xs, rfl, _⟩ := h; exact .inr ⟨_, _, rfl⟩
    | Sum.inr (Sum.inr (ks, vs)), h => obtain ⟨sl, xs, rfl, _⟩ := h; exact .inr ⟨_, _, rfl⟩

end Go.Proofs.YtjaoocincdoaaaaGreatDoor

namespace Go.Proofs.YtjaoocincdoaaaaGreatDoor
open Go.RowKit J

set_option linter.unusedVariables false

theorem info_mem : (Tryz.prog.info? 114).map (fun i => (i.zero, i.size, i.bytes)) = some (some (.agg #[.string ⟨#[]⟩, .nilIface]), 2, 32) := by kernel_rfl

/-- append(o, m): one member. -/
theorem app_mem {w : World} {ops : Array Oper} {rest : List Oper} {o : Oper} {a : Act} {Q : Exit → Act → World → Prop} (hgd : o.guard = none) (s x : Operand)
    (ho : o.op = .call { callee := .builtin .append, args := #[s, x], argTypes := #[83, 83] })
    (v : Value) (ks : List ByteArray) (xs : List Value) (hs : a.eval s = v) (hown : Mem w v ks xs) (ad : Addr) (c : Nat) (key : ByteArray) (nv : Value) (hx : a.eval x = .slice (some ad) 1 c)
    (hk : w.cell? (ad.add 0) = some (.string key)) (hv : w.cell? (ad.add 1) = some nv) (h1 : nv.oneCell' = true) (hl : xs.length ≤ 1000000) (H : Nat) (hH : w.heap.size = H)
    (h : ∀ g cap w', Mem w' (.slice (some ⟨g, 0, none⟩) (xs.length + 1) cap) (ks ++ [key]) (xs ++ [nv]) → w.grownBy w' v.ownBlock → (v.ownBlock = some g ∨ g = H) → g < w'.heap.size → wpList Tryz.prog ops Q rest (a.put o.dst (.slice (some ⟨g, 0, none⟩) (xs.length + 1) cap)) w') : wpList Tryz.prog ops Q (o :: rest) a w := by
  obtain ⟨i0, hi, hz0, hz1, hz2⟩ := info_parts info_mem
  have hb : (xs.length + 1) * 32 ≤ 140737488355328 := by omega
  refine wpList_append_lies _ hgd s x 83 ho 0 114 i0 (.agg #[.string ⟨#[]⟩, .nilIface]) 2 32 Tryz.underlying83 hi hz0 hz1 hz2 (by rfl) (by decide) v xs.length (mv ks xs) hs hown.2 ad 1 c [.string key, nv] hx (by simp) ?_ ?_ (by omega) (by unfold maxLen; omega) hb (Nat.zero_le _) H hH ?_
  · intro j u hj
    match j, hj with
    | 0, hj => simp at hj; subst hj; exact hk
    | 1, hj => simp at hj; subst hj; exact hv
  · intro u hu
    simp at hu
    rcases hu with rfl | rfl
    · rfl
    · exact h1
  · intro g cap w' r1 r2 r3 r4
    refine h g cap w' ⟨by simp [hown.1], ?_⟩ r2 r3 r4
    rw [mv_snoc ks xs key nv hown.1, List.length_append]
    exact r1

theorem two_cells {W : World} {n : Nat} {x y : Value} {t : TypeId} (h : W.heap.size = n) : (W.alloc (.cells #[x, y] t)).cell? ((⟨n, 0, none⟩ : Addr).add 0) = some x ∧ (W.alloc (.cells #[x, y] t)).cell? ((⟨n, 0, none⟩ : Addr).add 1) = some y := by
  have hh : (W.alloc (.cells #[x, y] t)).heap[n]? = some (.cells #[x, y] t (0, 0)) := heap_new h
  constructor <;> simp [Addr.add_lit, World.cell?, hh]

set_option maxHeartbeats 4000000 in
theorem pput_found (ks : List ByteArray) (xs : List Value) (key : ByteArray) (x : Value) (sl : Value) (i0 : Nat) (w : World) (hmem : Mem w sl ks xs) (hx : IsIf x) (hlen : xs.length ≤ 2000) (hno : ∀ j, j < i0 → ks[j]? ≠ some key) (hyes : ks[i0]? = some key) :
    Calls Tryz.prog 62 #[sl, .string key, x] w fun e w' => e = .returned sl ∧ Mem w' sl ks (xs.set i0 x) ∧ Chg (fun k => sl.ownBlock = some k) w w' := by
  have hi0 : i0 < ks.length := (List.getElem?_eq_some_iff.1 hyes).1
  have hkl : ks.length = xs.length := hmem.1
  rcases hmem.len with ⟨rfl, hnil⟩ | ⟨g, cap, rfl, hcap⟩
  · subst hnil; simp at hkl; rw [hkl] at hi0; simp at hi0
  have hkc : ∀ j k', ks[j]? = some k' → w.cell? ⟨g, j * 2, none⟩ = some (.string k') := fun j k' h => hmem.get (mv_key ks xs j k' hkl h)
  have hvc : ∀ j v', xs[j]? = some v' → w.cell? ⟨g, j * 2 + 1, none⟩ = some v' := fun j v' h => hmem.get (mv_val ks xs j v' hkl h)
  have HM : Hid (Mem w (.slice (some ⟨g, 0, none⟩) xs.length cap) ks xs) := hmem
  have HKC : Hid (∀ j k', ks[j]? = some k' → w.cell? ⟨g, j * 2, none⟩ = some (.string k')) := hkc
  have HVC : Hid (∀ j v', xs[j]? = some v' → w.cell? ⟨g, j * 2 + 1, none⟩ = some v') := hvc
  have HNO : Hid (∀ j, j < i0 → ks[j]? ≠ some key) := hno
  have HYES : Hid (ks[i0]? = some key) := hyes
  clear hmem hkc hvc hno hyes
  rcases hx with rfl | ⟨tx, vx, rfl⟩
  all_goals
    go_enter Tryz.func62, Tryz.ntmps62
    go_wp2_with fail
    go_loopg [10] (i0 + 1) (fun gg iv wr => w = wr ∧ ∃ i : Nat, i ≤ i0 ∧ gg = i0 + 1 - i ∧ iv = .int .i64 i)
    case atStart => exact ⟨rfl, 0, by omega, by omega, rfl⟩
    case round =>
      obtain ⟨rfl, i, hi, hg, rfl⟩ := hrel
      have HG : Hid (gk = i0 + 1 - i) := hg
      have hil : i < ks.length := by omega
      have hix : i < xs.length := by omega
      obtain ⟨ki, hki⟩ : ∃ ki, ks[i]? = some ki := ⟨ks[i]'hil, List.getElem?_eq_getElem hil⟩
      obtain ⟨vi, hvi⟩ : ∃ vi, xs[i]? = some vi := ⟨xs[i]'hix, List.getElem?_eq_getElem hix⟩
      have ck := HKC.out i ki hki
      have cv' := HVC.out i vi hvi
      have hfr := HM.out.free
      clear hg hvi
      by_cases hlt : i < i0
      · have hne := str_ne (show ki ≠ key by intro e; apply HNO.out i hlt; rw [hki, e])
        clear hki cv' hfr
        go_wp2
        go_roundg (i0 + 1 - (i + 1))
        case measure => rw [HG.out]; omega
        case rel => exact ⟨rfl, i + 1, by omega, rfl, by go_num⟩
      · have hie : i = i0 := by omega
        subst hie
        have heq := str_eq (show ki = key by have := HYES.out; rw [this] at hki; injection hki with h; exact h.symm)
        clear hki
        go_wp2
        go_ret
        exact ⟨rfl, HM.out.set i _, Chg.setCell (S := fun k => (Value.slice (some ⟨g, 0, none⟩) xs.length cap).ownBlock = some k) (Chg.refl _ w) (b := g) rfl _ _⟩

set_option maxHeartbeats 4000000 in
theorem pput_none (ks : List ByteArray) (xs : List Value) (key : ByteArray) (x : Value) (sl : Value) (w : World) (hmem : Mem w sl ks xs) (hx : IsIf x) (hlen : xs.length ≤ 2000) (hno : ∀ j, j < ks.length → ks[j]? ≠ some key) :
    Calls Tryz.prog 62 #[sl, .string key, x] w fun e w' => ∃ sl', e = .returned sl' ∧ Mem w' sl' (ks ++ [key]) (xs ++ [x]) ∧ Chg (fun k => sl.ownBlock = some k) w w' ∧ (∀ g, sl'.ownBlock = some g → sl.ownBlock = some g ∨ w.heap.size ≤ g) := by
  have hkl : ks.length = xs.length := hmem.1
  have HM : Hid (Mem w sl ks xs) := hmem
  have HNO : Hid (∀ j, j < ks.length → ks[j]? ≠ some key) := hno
  obtain ⟨X, hX⟩ : ∃ X, X = x := ⟨_, rfl⟩
  have HX : Hid (X = x) := hX
  have hX1 : X.oneCell' = true := by rw [hX]; exact hx.one
  clear hX
  rcases hx with rfl | ⟨tx, vx, rfl⟩
  all_goals
    rcases hmem.len with ⟨rfl, hnil⟩ | ⟨g, cap, rfl, hcap⟩
    · subst hnil
      clear hmem hno hkl
      go_enter Tryz.func62, Tryz.ntmps62
      go_wp2_with fail
      go_loopg [10] 1 (fun gg iv wr => w = wr ∧ iv = .int .i64 0)
      case atStart => exact ⟨rfl, rfl⟩
      case round =>
        obtain ⟨rfl, rfl⟩ := hrel
        go_wp2_with (at_builtin; go_loud (refine app_mem rfl (.tmp 27) (.tmp 31) rfl _ ks [] rfl ?h1 _ _ key X rfl ?h2 ?h3 hX1 ?h4 _ rfl ?_))
        case h1 => exact ⟨HM.out.1, World.ownsRow.alloc HM.out.2 _⟩
        case h2 => exact (two_cells rfl).1
        case h3 => rw [HX.out]; exact (two_cells rfl).2
        case h4 => simp
        intro g1 cap1 w2 hmem2 hgr hat hlt
        have HGR := hid_of hgr
        have HAT := hid_of hat
        have HM2 := hid_of hmem2
        clear hgr hat hmem2
        go_wp2
        go_ret
        refine ⟨_, rfl, by rw [← HX.out]; exact HM2.out, ((Chg.refl _ w).alloc _).trans (Chg.of_grown HGR.out), ?_⟩
        intro i hi
        rcases HAT.out with h | h
        · simp [Value.ownBlock] at h
        · simp [Value.ownBlock] at hi; have h' : g1 = w.heap.size + 1 := h; right; omega
    · have hkc : ∀ j k', ks[j]? = some k' → w.cell? ⟨g, j * 2, none⟩ = some (.string k') := fun j k' h => hmem.get (mv_key ks xs j k' hkl h)
      have HKC : Hid (∀ j k', ks[j]? = some k' → w.cell? ⟨g, j * 2, none⟩ = some (.string k')) := hkc
      clear hmem hno hkc
      go_enter Tryz.func62, Tryz.ntmps62
      go_wp2_with fail
      go_loopg [10] (ks.length + 1) (fun gg iv wr => w = wr ∧ ∃ i : Nat, i ≤ ks.length ∧ gg = ks.length + 1 - i ∧ iv = .int .i64 i)
      case atStart => exact ⟨rfl, 0, by omega, by omega, rfl⟩
      case round =>
        obtain ⟨rfl, i, hi, hg, rfl⟩ := hrel
        have HG : Hid (gk = ks.length + 1 - i) := hg
        clear hg
        by_cases hlt : i < ks.length
        · have hix : i < xs.length := by omega
          obtain ⟨ki, hki⟩ : ∃ ki, ks[i]? = some ki := ⟨ks[i]'hlt, List.getElem?_eq_getElem hlt⟩
          have ck := HKC.out i ki hki
          have hne := str_ne (show ki ≠ key by intro e; apply HNO.out i hlt; rw [hki, e])
          clear hki
          go_wp2
          go_roundg (ks.length + 1 - (i + 1))
          case measure => rw [HG.out]; omega
          case rel => exact ⟨rfl, i + 1, by omega, rfl, by go_num⟩
        · have hie : i = xs.length := by omega
          subst hie
          clear hlt
          go_wp2_with (at_builtin; go_loud (refine app_mem rfl (.tmp 27) (.tmp 31) rfl _ ks xs rfl ?h1 _ _ key X rfl ?h2 ?h3 hX1 ?h4 _ rfl ?_))
          case h1 => exact ⟨HM.out.1, World.ownsRow.alloc HM.out.2 _⟩
          case h2 => exact (two_cells rfl).1
          case h3 => rw [HX.out]; exact (two_cells rfl).2
          case h4 => omega
          intro g1 cap1 w2 hmem2 hgr hat hlt
          have HGR := hid_of hgr
          have HAT := hid_of hat
          have HM2 := hid_of hmem2
          clear hgr hat hmem2
          go_wp2
          go_ret
          refine ⟨_, rfl, by rw [← HX.out]; exact HM2.out, ((Chg.refl _ w).alloc _).trans (Chg.of_grown HGR.out), ?_⟩
          intro i hi
          rcases HAT.out with h | h
          · simp [Value.ownBlock] at hi h; left; simp [Value.ownBlock]; omega
          · simp [Value.ownBlock] at hi; have h' : g1 = w.heap.size + 1 := h; right; omega

theorem pput_any (ks : List ByteArray) (xs : List Value) (key : ByteArray) (x : Value) (sl : Value) (w : World) (hmem : Mem w sl ks xs) (hx : IsIf x) (hlen : xs.length ≤ 2000) :
    Calls Tryz.prog 62 #[sl, .string key, x] w fun e w' => ∃ sl', e = .returned sl' ∧ Mem w' sl' (putK ks key) (putP ks xs key x) ∧ Chg (fun k => sl.ownBlock = some k) w w' ∧ (∀ g, sl'.ownBlock = some g → sl.ownBlock = some g ∨ w.heap.size ≤ g) := by
  rcases first_idx ks key with h | ⟨i, h1, h2⟩
  · obtain ⟨e1, e2⟩ := putP_none ks xs key x hmem.1 h
    rw [e1, e2]
    exact pput_none ks xs key x sl w hmem hx hlen h
  · obtain ⟨e1, e2⟩ := putP_found ks xs key x i hmem.1 h1 h2
    rw [e1, e2]
    refine (pput_found ks xs key x sl i w hmem hx hlen h1 h2).mono ?_
    rintro e w' ⟨rfl, h3, h4⟩
    exact ⟨sl, rfl, h3, h4, fun g hg => .inl hg⟩

end Go.Proofs.YtjaoocincdoaaaaGreatDoor

namespace Go.Proofs.YtjaoocincdoaaaaGreatDoor
open Go.RowKit J

set_option linter.unusedVariables false

theorem wordR_at {s : ByteArray} : ∀ (l : List UInt8) (k : Nat), (wordR s k (-1) l).2 = -1 ∨ (wordR s k (-1) l).2 = ((wordR s k (-1) l).1 : Int)
  | [], k => .inl rfl
  | c :: cs, k => by
    rw [wordR]; split
    · exact wordR_at cs (k + 1)
    · right; exact failed_good k
theorem escpR_at (s : ByteArray) (k : Nat) : (escpR s k).2.2 = -1 ∨ (escpR s k).2.2 = ((escpR s k).2.1 : Int) := by
  unfold escpR; split
  · have := (hpR_escR s (k + 1)).2.2
    simp only; split
    · exact this
    · exact this
  · split
    · exact .inl rfl
    · exact .inr rfl
theorem fromR_at {s : ByteArray} {k : Nat} {bad lo hi : Int} (hlo : 0 ≤ lo) (h : bad = -1 ∨ bad = (k : Int)) : (fromR s k bad lo hi).2.2 = -1 ∨ (fromR s k bad lo hi).2.2 = ((fromR s k bad lo hi).2.1 : Int) := by
  unfold fromR; split
  · rename_i hc
    have := cv_lt (show 0 ≤ cv s k bad by omega)
    rcases h with h | h
    · exact .inl h
    · omega
  · right
    rcases h with h | h
    · rw [h]; exact failed_good k
    · show failed k bad = (k : Int)
      rw [failed_dead k (show 0 ≤ bad by omega)]; exact h
theorem manyR_at (s : ByteArray) (k : Nat) : (manyR s k (-1)).2 = -1 ∨ (manyR s k (-1)).2 = ((manyR s k (-1)).1 : Int) := by
  have h1 := fromR_at (s := s) (k := k) (lo := 194) (hi := 244) (by omega) (.inl rfl)
  obtain ⟨a, k1, b1, e1⟩ : ∃ a k1 b1, fromR s k (-1) 194 244 = (a, k1, b1) := ⟨_, _, _, rfl⟩
  rw [e1] at h1
  simp only at h1
  have h2 := fun lo hi (hlo : (0 : Int) ≤ lo) => fromR_at (s := s) (k := k1) (bad := b1) (lo := lo) (hi := hi) hlo h1
  simp only [manyR, e1]
  have hlo : (0 : Int) ≤ (if a = 240 then 144 else if a = 224 then 160 else 128) := by
    split
    · omega
    · split <;> omega
  have h3 := h2 _ (if a = 244 then 143 else if a = 237 then 159 else 191) hlo
  split
  · split
    · exact fromR_at (by omega) (fromR_at (by omega) h3)
    · exact fromR_at (by omega) h3
  · split
    · exact fromR_at (by omega) h3
    · exact h3
theorem textF_at {s : ByteArray} : ∀ (f k : Nat) (acc : List UInt8), (textF s f k acc).2.2 = -1 ∨ (textF s f k acc).2.2 = ((textF s f k acc).2.1 : Int)
  | 0, k, acc => .inr rfl
  | f + 1, k, acc => by
    rw [textF]
    split
    · exact .inl rfl
    · split
      · exact .inr rfl
      · split
        · split
          · exact textF_at f _ _
          · exact manyR_at s k
        · split
          · split
            · exact textF_at f _ _
            · exact escpR_at s (k + 1)
          · exact textF_at f _ _
theorem textR_at (s : ByteArray) (k : Nat) : (textR s k).2.2 = -1 ∨ (textR s k).2.2 = ((textR s k).2.1 : Int) := by
  rw [textR]; split
  · exact textF_at _ _ _
  · exact .inr rfl
theorem runX_at (s : ByteArray) (k : Nat) : (runX s k).2.2 = -1 ∨ (runX s k).2.2 = ((runX s k).2.1 : Int) := by
  rw [runX]; split
  · exact .inl rfl
  · exact .inr rfl
theorem partR_at (s : ByteArray) (k : Nat) : (partR s k).2.2 = -1 ∨ (partR s k).2.2 = ((partR s k).2.1 : Int) := by
  rw [partR]; split
  · exact runX_at _ _
  · exact .inl rfl
theorem expR_at {s : ByteArray} {k : Nat} {bad : Int} (h : bad = -1 ∨ bad = (k : Int)) : (expR s k bad).2.2 = -1 ∨ (expR s k bad).2.2 = ((expR s k bad).2.1 : Int) := by
  rw [expR]; split
  · exact runX_at _ _
  · exact h
theorem numR_at (s : ByteArray) (k : Nat) : (numR s k).2.2 = -1 ∨ (numR s k).2.2 = ((numR s k).2.1 : Int) := by
  rw [numR]; split
  · exact .inr rfl
  · exact expR_at (partR_at _ _)

theorem numQ_at (s : ByteArray) (k : Nat) : (numQ s k).2.2 = -1 ∨ (numQ s k).2.2 = ((numQ s k).2.1 : Int) := by
  unfold numQ; split
  · exact .inr rfl
  · exact numR_at s k

/-- What is told of a piece, and where. -/
theorem at_err {k : Nat} {bad : Int} (h : bad = -1 ∨ bad = (k : Int)) (h0 : ¬ bad < 0) : bad.toNat = k ∧ bad = (k : Int) := by omega

theorem pvalQ_skip (n : Nat) (s : ByteArray) (k : Nat) (lg : Bool) : pvalQ n s (skip s k) lg = pvalQ n s k lg := by
  cases n with
  | zero => simp only [pvalQ, skip_skip]
  | succ n => simp only [pvalQ, skip_skip]

/-- A member: its key and its value, told to those ahead. -/
def memStep (n : Nat) (s : ByteArray) (st : List ByteArray × List (VT n)) (k : Nat) (lg : Bool) : Except Nat ((List ByteArray × List (VT n)) × Nat × Bool) :=
  if 0 ≤ (keyR s k).2.2 then .error (keyR s k).2.1
  else (pvalQ n s (keyR s k).2.1 lg).map fun r => ((putK st.1 (keyR s k).1, putP st.1 st.2 (keyR s k).1 r.1), r.2)
def itemStep (n : Nat) (s : ByteArray) (st : List (VT n)) (k : Nat) (lg : Bool) : Except Nat (List (VT n) × Nat × Bool) := (pvalQ n s k lg).map fun r => (st ++ [r.1], r.2)

def objT (n : Nat) (s : ByteArray) (f : Nat) (fst : Bool) (k : Nat) (lg : Bool) (st : List ByteArray × List (VT n)) : Except Nat ((List ByteArray × List (VT n)) × Nat × Bool) := objF (pvalQ n s) s f fst k lg st.1 st.2

/-- What a row of things does, as its parts tell. -/
structure RowLaw {σ : Type} (s : ByteArray) (c : Int) (step : σ → Nat → Bool → Except Nat (σ × Nat × Bool)) (T : Nat → Bool → Nat → Bool → σ → Except Nat (σ × Nat × Bool)) : Prop where
  fin : ∀ f fst k lg st, gb s k = c → T (f + 1) fst k lg st = .ok (st, k + 1, lg)
  bad : ∀ f k lg st, gb s k ≠ c → gb s k ≠ 44 → T (f + 1) false k lg st = .error k
  err : ∀ f fst k lg st p, gb s k ≠ c → (fst = true ∨ gb s k = 44) → step st (skip s (if fst then k else k + 1)) lg = .error p → T (f + 1) fst k lg st = .error p
  next : ∀ f fst k lg st r, gb s k ≠ c → (fst = true ∨ gb s k = 44) → step st (skip s (if fst then k else k + 1)) lg = .ok r → T (f + 1) fst k lg st = T f false (skip s r.2.1) r.2.2 r.1

theorem listLaw (n : Nat) (s : ByteArray) : RowLaw s 93 (itemStep n s) (listF (pvalQ n s) s) where
  fin f fst k lg st h := listF_end h
  bad f k lg st h h2 := listF_bad h h2
  err f fst k lg st p h h2 hs := by
    rw [itemStep, pvalQ_skip] at hs
    refine listF_err h h2 ?_
    cases hv : pvalQ n s (if fst = true then k else k + 1) lg with
    | error q => rw [hv] at hs; injection hs with hs; rw [hs]
    | ok r => rw [hv] at hs; cases hs
  next f fst k lg st r h h2 hs := by
    rw [itemStep, pvalQ_skip] at hs
    cases hv : pvalQ n s (if fst = true then k else k + 1) lg with
    | error q => rw [hv] at hs; cases hs
    | ok x =>
      rw [hv] at hs
      injection hs with hs
      rw [← hs]
      exact listF_next h h2 hv

theorem objLaw (n : Nat) (s : ByteArray) : RowLaw s 125 (memStep n s) (objT n s) where
  fin f fst k lg st h := objF_end h
  bad f k lg st h h2 := objF_bad h h2
  err f fst k lg st p h h2 hs := by
    unfold memStep at hs
    by_cases hq : gb s (skip s (if fst = true then k else k + 1)) ≠ 34
    · rw [keyR, if_pos hq] at hs
      simp only at hs
      rw [if_pos (by omega)] at hs
      injection hs with hs
      have ht : textR s (skip s (if fst = true then k else k + 1)) = ([], skip s (if fst = true then k else k + 1), ((skip s (if fst = true then k else k + 1) : Nat) : Int)) := by rw [textR, if_neg hq]
      have := objF_key (item := pvalQ n s) (f := f) (lg := lg) (ks := st.1) (vs := st.2) h h2 rfl ht (by simp only; omega)
      rw [objT, this, ← hs]; rfl
    · have hat := textR_at s (skip s (if fst = true then k else k + 1))
      rw [keyR, if_neg hq] at hs
      by_cases hb : 0 ≤ (textR s (skip s (if fst = true then k else k + 1))).2.2
      · rw [if_pos hb] at hs
        simp only at hs
        rw [if_pos hb] at hs
        injection hs with hs
        have := objF_key (item := pvalQ n s) (f := f) (lg := lg) (ks := st.1) (vs := st.2) h h2 rfl rfl hb
        rw [objT, this, ← hs, (at_err hat (by omega)).1]
      · rw [if_neg hb] at hs
        by_cases hcol : gb s (skip s (textR s (skip s (if fst = true then k else k + 1))).2.1) ≠ 58
        · rw [if_pos hcol] at hs
          simp only at hs
          rw [if_pos (by omega)] at hs
          injection hs with hs
          have := objF_colon (item := pvalQ n s) (f := f) (lg := lg) (ks := st.1) (vs := st.2) h h2 rfl rfl (by omega) hcol
          rw [objT, this, ← hs]
        · rw [if_neg hcol] at hs
          simp only at hs
          rw [if_neg (by omega), pvalQ_skip] at hs
          cases hv : pvalQ n s (skip s (textR s (skip s (if fst = true then k else k + 1))).2.1 + 1) lg with
          | error q =>
            rw [hv] at hs
            injection hs with hs
            subst hs
            exact objF_err h h2 rfl rfl (by omega) (by simpa using hcol) hv
          | ok x => rw [hv] at hs; cases hs
  next f fst k lg st r h h2 hs := by
    unfold memStep at hs
    by_cases hq : gb s (skip s (if fst = true then k else k + 1)) ≠ 34
    · rw [keyR, if_pos hq] at hs
      simp only at hs
      rw [if_pos (by omega)] at hs
      cases hs
    · rw [keyR, if_neg hq] at hs
      by_cases hb : 0 ≤ (textR s (skip s (if fst = true then k else k + 1))).2.2
      · rw [if_pos hb] at hs
        simp only at hs
        rw [if_pos hb] at hs
        cases hs
      · rw [if_neg hb] at hs
        by_cases hcol : gb s (skip s (textR s (skip s (if fst = true then k else k + 1))).2.1) ≠ 58
        · rw [if_pos hcol] at hs
          simp only at hs
          rw [if_pos (by omega)] at hs
          cases hs
        · rw [if_neg hcol] at hs
          simp only at hs
          rw [if_neg (by omega), pvalQ_skip] at hs
          cases hv : pvalQ n s (skip s (textR s (skip s (if fst = true then k else k + 1))).2.1 + 1) lg with
          | error q => rw [hv] at hs; cases hs
          | ok x =>
            rw [hv] at hs
            injection hs with hs
            rw [← hs]
            exact objF_next h h2 rfl rfl (by omega) (by simpa using hcol) hv

end Go.Proofs.YtjaoocincdoaaaaGreatDoor

namespace Go.Proofs.YtjaoocincdoaaaaGreatDoor
open Go.RowKit J

set_option linter.unusedVariables false

theorem env_bel {w w' : World} {N b : Nat} (h : Env w) (hb : Bel N b w w') (hG : 16 ≤ b) (hN : 16 ≤ N) : Env w' := by
  obtain ⟨h1, ⟨m, h2⟩, te, pe, h3⟩ := h
  exact ⟨tabs_bel h1 hb hG hN, ⟨m, cell_keep h2 (hb.block _ (by omega) (by omega))⟩, te, pe, cell_keep h3 (hb.block _ (by omega) (by omega))⟩

/-- What a thing that is read hands up. -/
def StepIs {σ : Type} (s : ByteArray) (J : Addr) (R : Except Nat (σ × Nat × Bool)) (er : Value) (j k' : Nat) (lg' : Bool) (P : σ → Prop) : Prop :=
  match R with
  | .error p => er = errV J p
  | .ok r => er = .nilIface ∧ k' = r.2.1 ∧ lg' = r.2.2 ∧ P r.1 ∧ j ≤ k' ∧ k' ≤ s.size

set_option maxRecDepth 100000 in
set_option maxHeartbeats 4000000 in
theorem row_any {σ : Type} (fn : Nat) (cap : Array Value) (Inv : σ → Nat → World → Prop) (step : σ → Nat → Bool → Except Nat (σ × Nat × Bool)) (T : Nat → Bool → Nat → Bool → σ → Except Nat (σ × Nat × Bool)) (b : Nat) (s : ByteArray) (op : Int) (c : Int) (J : Addr) (N : Nat)
    (eg : ∀ args W, (callFunc fn args).run Tryz.prog W = .ok (.enter fn args) W) (hc : 0 < c) (hlaw : RowLaw s c step T) (hInv : ∀ st j j' w w', Inv st j w → j ≤ j' → But b w w' → Inv st j' w') (Wk : World → Prop) (hWk : ∀ w w', Wk w → But b w w' → Wk w') (hIW : ∀ st j w, Inv st j w → Wk w)
    (hthing : ∀ st j lg w, Inv st j w → N ≤ w.heap.size → PS w b s j op lg J → Env w → skip s j = j → j ≤ s.size → Calls Tryz.prog fn cap w fun e w' => ∃ er k' lg', e = .returned er ∧ Bel N b w w' ∧ PS w' b s k' op lg' J ∧ Wk w' ∧ Hid (StepIs s J (step st j lg) er j k' lg' (fun st' => Inv st' k' w')))
    (k : Nat) (lg : Bool) (w : World) (st : σ) (hp : PS w b s k op lg J) (hE : Env w) (hG : 16 ≤ b) (hbN : b < N) (hN : N ≤ w.heap.size) (hs : s.size ≤ 1000) (hk : k ≤ s.size) (hk0 : 1 ≤ k) (hst : Inv st k w) :
    Calls Tryz.prog 59 #[.pointer (some ⟨b, 0, none⟩), .int .u8 c, .func (.func fn) #[] cap] w fun e w' => ∃ er k' lg', e = .returned er ∧ Bel N b w w' ∧ PS w' b s k' op lg' J ∧ Wk w' ∧ Hid (StepIs s J (T (s.size + 1) true (skip s k) lg st) er k k' lg' (fun st' => Inv st' k' w')) := by
  have HP : Hid (PS w b s k op lg J) := hp
  have HE : Hid (Env w) := hE
  have HLAW : Hid (RowLaw s c step T) := hlaw
  have HINV : Hid (∀ st j j' w w', Inv st j w → j ≤ j' → But b w w' → Inv st j' w') := hInv
  have HTH : Hid (∀ st j lg w, Inv st j w → N ≤ w.heap.size → PS w b s j op lg J → Env w → skip s j = j → j ≤ s.size → Calls Tryz.prog fn cap w fun e w' => ∃ er k' lg', e = .returned er ∧ Bel N b w w' ∧ PS w' b s k' op lg' J ∧ Wk w' ∧ Hid (StepIs s J (step st j lg) er j k' lg' (fun st' => Inv st' k' w'))) := hthing
  have HST : Hid (Inv st k w) := hst
  have HWK : Hid (∀ w w', Wk w → But b w w' → Wk w') := hWk
  have HIW : Hid (∀ st j w, Inv st j w → Wk w) := hIW
  clear hWk hIW
  obtain ⟨R, hR⟩ : ∃ R, R = T (s.size + 1) true (skip s k) lg st := ⟨_, rfl⟩
  have HR : Hid (T (s.size + 1) true (skip s k) lg st = R) := hR.symm
  rw [← hR]
  have hsk := skip_size s k hk
  have hskl := skip_le s k
  obtain ⟨k0, hk0e⟩ : ∃ k0, k0 = skip s k := ⟨_, rfl⟩
  have HK0 : Hid (k0 = skip s k) := hk0e
  rw [← hk0e] at hsk hskl
  clear hp hE hlaw hInv hthing hst hR hk0e
  go_enter Tryz.func59, Tryz.ntmps59
  go_wp2_with fail
  refine (pblanks_any b s k op lg _ HP.out hk hs).mono ?_
  rintro e w1 ⟨rfl, hb1, hp1⟩
  rw [← HK0.out] at hp1
  have hi1 : Hid (Inv st k0 w1) := HINV.out _ _ _ _ _ HST.out hskl hb1
  have HP1 : Hid (PS w1 b s k0 op lg J) := hp1
  clear hp1
  by_cases hcc : pk s k0 = c
  · have HC : Hid (pk s k0 = c) := hcc
    have hg : gb s k0 = c := (pk_gb hc).1 hcc
    have hlt := lt_of_gb (s := s) (k := k0) (by omega)
    have HF : Hid (R = .ok (st, k0 + 1, lg)) := by show _ = _; rw [← HR.out, ← HK0.out]; exact HLAW.out.fin _ _ _ _ _ hg
    clear hcc hg
    go_wp2_with fail
    refine (ptake_yes b s k0 op lg c _ HP1.out hsk hs HC.out).mono ?_
    rintro e w2 ⟨rfl, hb2, hp2⟩
    go_wp2_with fail
    go_ret
    refine ⟨.nilIface, k0 + 1, lg, rfl, Bel.of_but (hb1.trans hb2) hN, hp2, HWK.out _ _ (HIW.out _ _ _ hi1.out) hb2, ?_⟩
    show StepIs _ _ _ _ _ _ _ _
    rw [HF.out]
    exact ⟨rfl, rfl, rfl, HINV.out _ _ _ _ _ hi1.out (by omega) hb2, by omega, hlt⟩
  · have HC : Hid (pk s k0 ≠ c) := hcc
    have HG : Hid (gb s k0 ≠ c) := fun h => hcc ((pk_gb hc).2 h)
    clear hcc
    go_wp2_with fail
    refine (ptake_no b s k0 op lg c _ HP1.out hsk hs HC.out).mono ?_
    rintro e w2 ⟨rfl, hb2, hp2⟩
    have hbA : Bel N b w w2 := Bel.of_but (hb1.trans hb2) hN
    have HP2 : Hid (PS w2 b s k0 op lg J) := hp2
    have hi2 : Hid (Inv st k0 w2) := HINV.out _ _ _ _ _ hi1.out (Nat.le_refl _) hb2
    clear hp2 hb1 hb2 HP1 hi1
    go_wp2_with fail
    go_loopg [] (s.size + 1) (fun g wr => Bel N b w wr ∧ ∃ fst j0 j lgj stj, gb s j0 ≠ c ∧ (fst = true ∨ gb s j0 = 44) ∧ j = skip s (if fst then j0 else j0 + 1) ∧ j ≤ s.size ∧ k ≤ j ∧ (if fst then s.size + 1 else s.size) < j0 + g ∧ T g fst j0 lgj stj = R ∧ PS wr b s j op lgj J ∧ Inv stj j wr)
    case atStart => exact ⟨hbA, true, k0, k0, lg, st, HG.out, .inl rfl, by rw [if_pos rfl, HK0.out, skip_skip], hsk, hskl, by rw [if_pos rfl]; omega, by rw [HK0.out]; exact HR.out, HP2.out, hi2.out⟩
    case round =>
      obtain ⟨hbel, fst, j0, j, lgj, stj, q1, q2, q3, hj, hkj, hjg, hT, hps, hinv⟩ := hrel
      have hj0 : j0 ≤ j ∧ (fst = false → j0 + 1 ≤ j) := by
        cases fst
        · rw [q3]; have := skip_le s (j0 + 1); simp; omega
        · rw [q3]; have := skip_le s j0; simp; omega
      have HJ0 : Hid (j0 ≤ j ∧ (fst = false → j0 + 1 ≤ j)) := hj0
      have hgk : 0 < gk := by
        rcases Nat.eq_zero_or_pos gk with h | h
        · subst h; split at hjg <;> omega
        · exact h
      obtain ⟨f, rfl⟩ : ∃ f, gk = f + 1 := ⟨gk - 1, by omega⟩
      have HJG : Hid ((if fst then s.size + 1 else s.size) < j0 + (f + 1)) := hjg
      have H1 : Hid (gb s j0 ≠ c) := q1
      have H2 : Hid (fst = true ∨ gb s j0 = 44) := q2
      have H3 : Hid (j = skip s (if fst then j0 else j0 + 1)) := q3
      have HT : Hid (T (f + 1) fst j0 lgj stj = R) := hT
      have HPj : Hid (PS wr b s j op lgj J) := hps
      have HIj : Hid (Inv stj j wr) := hinv
      have HSj : Hid (skip s j = j) := by show _ = _; rw [q3, skip_skip]
      have hszr : N ≤ wr.heap.size := Nat.le_trans hN hbel.size
      have HEj : Hid (Env wr) := env_bel HE.out hbel hG (by omega)
      clear hj0 hgk hjg q1 q2 q3 hT hps hinv hbA hi2 HP2 HP HG HC HST
      go_wp2_with fail
      refine (HTH.out stj j lgj wr HIj.out hszr HPj.out HEj.out HSj.out hj).mono ?_
      rintro e w3 ⟨er, k3, lg3, rfl, hbel3, hp3, hwk3, hst3⟩
      have HWK3 := hid_of hwk3
      clear hwk3
      have hst3' := hst3.out
      have HP3 : Hid (PS w3 b s k3 op lg3 J) := hp3
      have hbel4 : Bel N b w w3 := hbel.trans hbel3
      have hsz3 : N ≤ w3.heap.size := Nat.le_trans hN hbel4.size
      clear hst3 hp3 hbel hbel3
      cases hS : step stj j lgj with
      | error p =>
        rw [hS] at hst3'
        have hee : er = errV J p := hst3'
        subst hee
        have HF : Hid (R = .error p) := by show _ = _; rw [← HT.out]; exact HLAW.out.err _ _ _ _ _ _ H1.out H2.out (by rw [← H3.out]; exact hS)
        clear hS hst3'
        rw [errV]
        go_wp2_with fail
        go_ret
        refine ⟨errV J p, k3, lg3, rfl, hbel4, HP3.out, HWK3.out, ?_⟩
        show StepIs _ _ _ _ _ _ _ _
        rw [HF.out]; rfl
      | ok r =>
        rw [hS] at hst3'
        obtain ⟨hee, h31, h32, h33, h34, h35⟩ := hst3'
        subst hee
        have HN : Hid (T f false (skip s r.2.1) r.2.2 r.1 = R) := by show _ = _; rw [← HT.out]; exact (HLAW.out.next _ _ _ _ _ _ H1.out H2.out (by rw [← H3.out]; exact hS)).symm
        subst h31
        subst h32
        have HI3 : Hid (Inv r.1 r.2.1 w3) := h33
        obtain ⟨k4, hk4⟩ : ∃ k4, k4 = skip s r.2.1 := ⟨_, rfl⟩
        have hk4a := skip_le s r.2.1
        have hk4b := skip_size s r.2.1 h35
        rw [← hk4] at hk4a hk4b
        have HK4 : Hid (k4 = skip s r.2.1) := hk4
        clear hS h33 hk4
        go_wp2_with fail
        refine (pblanks_any b s _ op _ _ HP3.out h35 hs).mono ?_
        rintro e w4 ⟨rfl, hb4, hp4⟩
        rw [← HK4.out] at hp4
        have HP4 : Hid (PS w4 b s k4 op r.2.2 J) := hp4
        have HI4 : Hid (Inv r.1 k4 w4) := HINV.out _ _ _ _ _ HI3.out hk4a hb4
        clear hp4
        have hJG := HJG.out
        have hj4 : s.size < k4 + f := by
          have h := HJ0.out
          cases fst
          · have := h.2 rfl; simp at hJG; omega
          · simp at hJG; omega
        clear hJG
        by_cases hcc : pk s k4 = c
        · have HC : Hid (pk s k4 = c) := hcc
          have hg : gb s k4 = c := (pk_gb hc).1 hcc
          have hlt := lt_of_gb (s := s) (k := k4) (by omega)
          obtain ⟨f', rfl⟩ : ∃ f', f = f' + 1 := ⟨f - 1, by omega⟩
          have HF : Hid (R = .ok (r.1, k4 + 1, r.2.2)) := by show _ = _; rw [← HN.out, ← HK4.out]; exact HLAW.out.fin _ _ _ _ _ hg
          clear hcc hg
          go_wp2_with fail
          refine (ptake_yes b s k4 op _ c _ HP4.out hk4b hs HC.out).mono ?_
          rintro e w5 ⟨rfl, hb5, hp5⟩
          go_wp2_with fail
          go_ret
          refine ⟨.nilIface, k4 + 1, r.2.2, rfl, hbel4.trans (Bel.of_but (hb4.trans hb5) hsz3), hp5, HWK.out _ _ HWK3.out (hb4.trans hb5), ?_⟩
          show StepIs _ _ _ _ _ _ _ _
          rw [HF.out]
          exact ⟨rfl, rfl, rfl, HINV.out _ _ _ _ _ HI4.out (by omega) hb5, by omega, hlt⟩
        · have HC : Hid (pk s k4 ≠ c) := hcc
          have HG4 : Hid (gb s k4 ≠ c) := fun h => hcc ((pk_gb hc).2 h)
          clear hcc
          go_wp2_with fail
          refine (ptake_no b s k4 op _ c _ HP4.out hk4b hs HC.out).mono ?_
          rintro e w5 ⟨rfl, hb5, hp5⟩
          have HP5 : Hid (PS w5 b s k4 op r.2.2 J) := hp5
          have HI5 : Hid (Inv r.1 k4 w5) := HINV.out _ _ _ _ _ HI4.out (Nat.le_refl _) hb5
          have hbel5 : Bel N b w w5 := hbel4.trans (Bel.of_but (hb4.trans hb5) hsz3)
          clear hp5 hb4 hb5 HP4 HI4
          by_cases h44 : pk s k4 = 44
          · have HC44 : Hid (pk s k4 = 44) := h44
            have hg : gb s k4 = 44 := (pk_gb (by omega)).1 h44
            have HG44 : Hid (gb s k4 = 44) := hg
            have hlt := lt_of_gb (s := s) (k := k4) (by omega)
            clear h44 hg
            go_wp2_with fail
            refine (ptake_yes b s k4 op _ 44 _ HP5.out hk4b hs HC44.out).mono ?_
            rintro e w6 ⟨rfl, hb6, hp6⟩
            go_wp2_with fail
            refine (pblanks_any b s _ op _ _ hp6 hlt hs).mono ?_
            rintro e w7 ⟨rfl, hb7, hp7⟩
            go_wp2_with fail
            have h7a := skip_le s (k4 + 1)
            have h7b := skip_size s (k4 + 1) hlt
            go_roundg f
            case measure => omega
            case rel =>
              refine ⟨hbel5.trans (Bel.of_but (hb6.trans hb7) (Nat.le_trans hN hbel5.size)), false, k4, skip s (k4 + 1), r.2.2, r.1, HG4.out, .inr HG44.out, by simp, h7b, by omega, by simp; omega, by rw [HK4.out]; exact HN.out, hp7, HINV.out _ _ _ _ _ HI5.out (by omega) (hb6.trans hb7)⟩
          · have HC44 : Hid (pk s k4 ≠ 44) := h44
            obtain ⟨f', rfl⟩ : ∃ f', f = f' + 1 := ⟨f - 1, by omega⟩
            have HF : Hid (R = .error k4) := by show _ = _; rw [← HN.out, ← HK4.out]; exact HLAW.out.bad _ _ _ _ HG4.out (fun h => h44 ((pk_gb (by omega)).2 h))
            clear h44
            go_wp2_with fail
            refine (ptake_no b s k4 op _ 44 _ HP5.out hk4b hs HC44.out).mono ?_
            rintro e w6 ⟨rfl, hb6, hp6⟩
            go_wp2_with fail
            refine (wrong_any b s k4 op _ _ hp6).mono ?_
            rintro e w7 ⟨rfl, n7, rfl⟩
            rw [errV]
            go_wp2_with fail
            go_ret
            refine ⟨errV J k4, k4, r.2.2, rfl, hbel5.trans (Bel.of_but (hb6.drewN _) (Nat.le_trans hN hbel5.size)), hp6.drewN _, HWK.out _ _ (HIW.out _ _ _ HI5.out) (hb6.drewN _), ?_⟩
            show StepIs _ _ _ _ _ _ _ _
            rw [HF.out]; rfl

end Go.Proofs.YtjaoocincdoaaaaGreatDoor
