/- Bytes that a call has gathered: what it owns, how it appends to them, how they become a string. The document's reader: what stands behind a backslash; a string. The document's reader: what stands behind a backslash. The document's reader: a string. -/
import Derived.Test.YtjaoocincdoaaaaGreatDoorA01
import Derived.Lib.AppendStr
import Derived.Deep.RegionLaw
namespace Go.Proofs.YtjaoocincdoaaaaGreatDoor
open Go.RowKit

/-- Below block number N only block b may have turned. -/
structure Bel (N b : Nat) (w w' : World) : Prop where
  os : w'.os = w.os
  tape : w'.tape = w.tape
  output : w'.output = w.output
  size : w.heap.size ≤ w'.heap.size
  block : ∀ k, k < N → k ≠ b → w'.heap[k]? = w.heap[k]?

theorem Bel.refl (N b : Nat) (w : World) : Bel N b w w := ⟨rfl, rfl, rfl, Nat.le_refl _, fun _ _ _ => rfl⟩
theorem Bel.trans {N b : Nat} {x y z : World} (h : Bel N b x y) (k : Bel N b y z) : Bel N b x z :=
  ⟨k.os.trans h.os, k.tape.trans h.tape, k.output.trans h.output, Nat.le_trans h.size k.size, fun i hi hn => (k.block i hi hn).trans (h.block i hi hn)⟩
theorem Bel.of_but {N b : Nat} {x y : World} (h : But b x y) (hN : N ≤ x.heap.size) : Bel N b x y :=
  ⟨h.os, h.tape, h.output, h.size, fun k hk hn => h.block k (by omega) (by intro e; apply hn; injection e)⟩
theorem Bel.but {b : Nat} {x y : World} (h : Bel x.heap.size b x y) : But b x y :=
  ⟨h.os, h.tape, h.output, h.size, fun k hk hn => h.block k hk (by intro e; apply hn; rw [e])⟩
theorem Bel.of_grown {N b : Nat} {x y : World} {row : Option Nat} (h : x.grownBy y row) (hN : N ≤ x.heap.size) (hr : ∀ k, row = some k → N ≤ k) : Bel N b x y :=
  ⟨h.os, h.tape, h.output, h.size, fun k hk _ => h.block k (by omega) (by intro e; have := hr k e.symm; omega)⟩
theorem Bel.alloc {N b : Nat} {x y : World} (h : Bel N b x y) (hN : N ≤ y.heap.size) (o : Obj) : Bel N b x (y.alloc o) :=
  h.trans ⟨rfl, rfl, rfl, by simp, fun k hk _ => Below.heap_alloc _ _ _ (by omega)⟩
theorem Bel.drewN {N b : Nat} {x y : World} (h : Bel N b x y) (n : Nat) : Bel N b x (y.drewN n) := ⟨h.os, h.tape, h.output, h.size, h.block⟩
theorem Bel.setCell {N b : Nat} {x y : World} (h : Bel N b x y) (o : Nat) (v : Value) : Bel N b x (y.setCell ⟨b, o, none⟩ v) :=
  h.trans ⟨rfl, rfl, rfl, by simp [World.setCell], fun k _ hn => Below.heap_setCell _ _ _ _ (by intro e; exact hn e)⟩
theorem Bel.mono {N M b : Nat} {x y : World} (h : Bel N b x y) (hM : M ≤ N) : Bel M b x y := ⟨h.os, h.tape, h.output, h.size, fun k hk hn => h.block k (by omega) hn⟩

/-- Bytes as cells. -/
def bv (l : List UInt8) : List Value := l.map fun u => Value.int .u8 (u.toNat : Int)
theorem bv_length (l : List UInt8) : (bv l).length = l.length := by simp [bv]
theorem bv_append (l m : List UInt8) : bv (l ++ m) = bv l ++ bv m := by simp [bv]

/-- The slice v is the call's own, from block N on, and holds these bytes. -/
def OB (w : World) (N : Nat) (v : Value) (l : List UInt8) : Prop := w.ownsRow N 5 1 v l.length (bv l)

theorem OB.nil (w : World) (N : Nat) : OB w N (.slice none 0 0) [] := World.ownsRow_nil _ _ _ _
theorem OB.kept {w w' : World} {N b : Nat} {v : Value} {l : List UInt8} (h : OB w N v l) (hb : But b w w') (hN : b < N) : OB w' N v l :=
  World.ownsRow.kept h hb (by
    cases hv : v.ownBlock with
    | none => exact Or.inl rfl
    | some g => right; intro e; injection e with e; have := (World.ownsRow.lt h g hv).1; omega)
theorem OB.alloc {w : World} {N : Nat} {v : Value} {l : List UInt8} (h : OB w N v l) (o : Obj) : OB (w.alloc o) N v l := World.ownsRow.alloc h o
theorem OB.below {w : World} {N : Nat} {v : Value} {l : List UInt8} (h : OB w N v l) : ∀ k, v.ownBlock = some k → N ≤ k := fun k hk => (World.ownsRow.lt h k hk).1

theorem info_u8 : (Tryz.prog.info? 5).map (fun i => (i.zero, i.size, i.bytes)) = some (some (.int .u8 0), 1, 1) := by kernel_rfl

theorem one_bv (l : List UInt8) : ∀ u ∈ bv l, u.oneCell' = true := by
  intro u hu; simp only [bv, List.mem_map] at hu; obtain ⟨x, _, rfl⟩ := hu; rfl

/-- append(out, x...): both bytes. -/
theorem app_bytes {w : World} {ops : Array Oper} {rest : List Oper} {o : Oper} {a : Act} {Q : Exit → Act → World → Prop} (hgd : o.guard = none) (s x : Operand)
    (ho : o.op = .call { callee := .builtin .append, args := #[s, x], argTypes := #[44, 44] })
    (N : Nat) (v : Value) (l : List UInt8) (hs : a.eval s = v) (hown : OB w N v l) (ad : Addr) (m c : Nat) (news : List UInt8) (hx : a.eval x = .slice (some ad) m c) (hm : m = news.length)
    (hnews : ∀ j u, (bv news)[j]? = some u → w.cell? (ad.add j) = some u) (hl : l.length + news.length ≤ 1000000) (hbase : N ≤ w.heap.size)
    (h : ∀ v' w', OB w' N v' (l ++ news) → w.grownBy w' v.ownBlock → wpList Tryz.prog ops Q rest (a.put o.dst v') w') : wpList Tryz.prog ops Q (o :: rest) a w := by
  obtain ⟨i0, hi, hz0, hz1, hz2⟩ := info_parts info_u8
  refine wpList_append_own w hgd s x 44 ho N 5 i0 (.int .u8 0) 1 1 Tryz.underlying44 hi hz0 hz1 hz2 rfl (by decide) v l.length (bv l) hs hown ad m c (bv news) hx (by rw [bv_length, hm, Nat.mul_one]) hnews (one_bv _) (by unfold maxLen; omega) (by omega) hbase ?_
  intro v' w' h1 h2 _
  refine h v' w' ?_ h2
  unfold OB
  rw [bv_append, List.length_append, ← hm]
  exact h1

/-- append(out, x...): x a string. -/
theorem app_str {w : World} {ops : Array Oper} {rest : List Oper} {o : Oper} {a : Act} {Q : Exit → Act → World → Prop} (hgd : o.guard = none) (s x : Operand)
    (ho : o.op = .call { callee := .builtin .append, args := #[s, x], argTypes := #[44, 9] })
    (N : Nat) (v : Value) (l : List UInt8) (hs : a.eval s = v) (hown : OB w N v l) (t : ByteArray) (hx : a.eval x = .string t) (hl : l.length + t.size ≤ 1000000) (hbase : N ≤ w.heap.size)
    (h : ∀ v' w', OB w' N v' (l ++ t.data.toList) → w.grownBy w' v.ownBlock → wpList Tryz.prog ops Q rest (a.put o.dst v') w') : wpList Tryz.prog ops Q (o :: rest) a w := by
  obtain ⟨i0, hi, hz0, hz1, hz2⟩ := info_parts info_u8
  refine Lib.wpList_append_own_string w hgd s x 44 9 ho N 5 i0 Tryz.underlying44 Tryz.underlying9 hi hz0 hz1 hz2 v l.length (bv l) hs hown t hx (by unfold maxLen; omega) (by omega) hbase ?_
  intro v' w' h1 h2 _
  refine h v' w' ?_ h2
  unfold OB
  rw [bv_append, List.length_append]
  exact h1

/-- append(out, x...), x a string, as a step of a region that draws its order. -/
theorem step_app_str {ops : Array Oper} {o : Oper} {a : Act} {w : World} {K : Act → World → Prop} {Q : Exit → Act → World → Prop} {E : Prop} (hg : o.guard = none) (s x : Operand)
    (hop : o.op = .call { callee := .builtin .append, args := #[s, x], argTypes := #[44, 9] })
    (N : Nat) (v : Value) (l : List UInt8) (hs : a.eval s = v) (hown : OB w N v l) (t : ByteArray) (hx : a.eval x = .string t) (hl : l.length + t.size ≤ 1000000) (hbase : N ≤ w.heap.size)
    (hK : ∀ v' w', OB w' N v' (l ++ t.data.toList) → w.grownBy w' v.ownBlock → K (a.put o.dst v') w') :
    if Region.wanted o (yielded ops a.tmps) = true then Oper.wp Tryz.prog o a w K Q else E := by
  have hw : Region.wanted o (yielded ops a.tmps) = true := by simp [Region.wanted, hg]
  rw [if_pos hw]
  obtain ⟨i0, hi, hz0, hz1, hz2⟩ := info_parts info_u8
  obtain ⟨v', w', hr, h1, h2, _⟩ := Lib.run_append_own_string (P := Tryz.prog) w N 44 9 o.type 5 i0 Tryz.underlying44 Tryz.underlying9 hi hz0 hz1 hz2 v l.length (bv l) hown t (by unfold maxLen; omega) (by omega) hbase
  unfold Oper.wp
  simp [execOp, hop, resolve, invoke, builtin, hs, hx, hr, Result.andThen]
  refine hK v' w' ?_ h2
  unfold OB
  rw [bv_append, List.length_append]
  exact h1

/-- The same, x bytes. -/
theorem step_app_bytes {ops : Array Oper} {o : Oper} {a : Act} {w : World} {K : Act → World → Prop} {Q : Exit → Act → World → Prop} {E : Prop} (hg : o.guard = none) (s x : Operand)
    (hop : o.op = .call { callee := .builtin .append, args := #[s, x], argTypes := #[44, 44] })
    (N : Nat) (v : Value) (l : List UInt8) (hs : a.eval s = v) (hown : OB w N v l) (ad : Addr) (m c : Nat) (news : List UInt8) (hx : a.eval x = .slice (some ad) m c) (hm : m = news.length)
    (hnews : ∀ j u, (bv news)[j]? = some u → w.cell? (ad.add j) = some u) (hl : l.length + news.length ≤ 1000000) (hbase : N ≤ w.heap.size)
    (hK : ∀ v' w', OB w' N v' (l ++ news) → w.grownBy w' v.ownBlock → K (a.put o.dst v') w') :
    if Region.wanted o (yielded ops a.tmps) = true then Oper.wp Tryz.prog o a w K Q else E := by
  have hw : Region.wanted o (yielded ops a.tmps) = true := by simp [Region.wanted, hg]
  rw [if_pos hw]
  obtain ⟨i0, hi, hz0, hz1, hz2⟩ := info_parts info_u8
  obtain ⟨v', w', hr, h1, h2, _⟩ := run_append_own (P := Tryz.prog) w N 44 o.type 5 i0 (.int .u8 0) 1 1 Tryz.underlying44 hi hz0 hz1 hz2 rfl (by decide) v l.length (bv l) hown ad m c (bv news) (by rw [bv_length, hm, Nat.mul_one]) hnews (one_bv _) (by unfold maxLen; omega) (by omega) hbase
  unfold Oper.wp
  simp [execOp, hop, resolve, invoke, builtin, hs, hx, hr, Result.andThen]
  refine hK v' w' ?_ h2
  unfold OB
  rw [bv_append, List.length_append, ← hm]
  exact h1

theorem map_u8 (l : List UInt8) : (l.map fun u => ((u.toNat : Int))).map (fun n => UInt8.ofNat n.toNat) = l := by
  rw [List.map_map]
  have : ((fun n : Int => UInt8.ofNat n.toNat) ∘ fun u : UInt8 => (u.toNat : Int)) = id := by
    funext u; simp
  rw [this, List.map_id]

/-- string(out). -/
theorem conv_own {w : World} {N : Nat} {v : Value} {l : List UInt8} (h : OB w N v l) : (convert 44 9 v).run Tryz.prog w = .ok (.string ⟨l.toArray⟩) w := by
  rcases h.2 with ⟨rfl, hn⟩ | ⟨g, cap, cur, rfl, hN, hg, hcap, hm, hsz, htk⟩
  · have : l = [] := List.eq_nil_of_length_eq_zero hn
    subst this
    rw [run_convert_bytes_nil w 44 5 Tryz.underlying44 Tryz.underlying5 0 0 9 Tryz.underlying9]
    rfl
  · have hc := World.ownsRow.cells h (g := g) rfl
    rw [run_convert_bytes_arg w 44 5 Tryz.underlying44 Tryz.underlying5 g 0 l.length cap (l.map fun u => ((u.toNat : Int))) (by simp) ?_ 9 Tryz.underlying9]
    · congr 2
      unfold strOfNums
      rw [map_u8]
    · intro i hi
      have := hc i (.int .u8 ((l[i]'hi).toNat : Int)) (by simp [bv, List.getElem?_eq_getElem hi])
      rw [Addr.add_lit] at this
      rw [this]
      simp [List.getD, List.getElem?_eq_getElem hi]

end Go.Proofs.YtjaoocincdoaaaaGreatDoor

namespace Go.Proofs.YtjaoocincdoaaaaGreatDoor
open Go.RowKit J

set_option linter.unusedVariables false

/-- A code point as UTF-8. -/
def encI (n : Int) : List Int :=
  if n < 128 then [n] else if n < 2048 then [192 + n / 64, 128 + n % 64] else if n < 65536 then [224 + n / 4096, 128 + n / 64 % 64, 128 + n % 64]
  else [240 + n / 262144, 128 + n / 4096 % 64, 128 + n / 64 % 64, 128 + n % 64]
def encB (n : Int) : List UInt8 := (encI n).map fun i => UInt8.ofNat i.toNat

theorem u8_of {i : Int} (h0 : 0 ≤ i) (h1 : i < 256) : Value.int .u8 ((UInt8.ofNat i.toNat).toNat : Int) = Value.int .u8 i := by
  congr 1
  rw [UInt8.toNat_ofNat']
  omega

set_option maxHeartbeats 1000000 in
theorem encoded_any (n : Int) (w : World) (h0 : 0 ≤ n) (h1 : n < 1114112) :
    Calls Tryz.prog 151 #[.int .i64 n] w fun e w' => e = .returned (.slice (some ⟨w.heap.size, 0, none⟩) (encB n).length (encB n).length) ∧ w' = w.alloc (.cells (bv (encB n)).toArray 5) := by
  rcases (show n < 128 ∨ (128 ≤ n ∧ n < 2048) ∨ (2048 ≤ n ∧ n < 65536) ∨ 65536 ≤ n from by omega) with h | h | h | h
  · have he : encB n = [UInt8.ofNat n.toNat] := by simp [encB, encI, h]
    have hb : bv (encB n) = [.int .u8 n] := by rw [he]; simp only [bv, List.map_cons, List.map_nil]; rw [u8_of (by omega) (by omega)]
    rw [hb, he]; clear hb he
    go_enter Tryz.func151, Tryz.ntmps151
    go_wp2
    go_ret
    exact ⟨rfl, rfl⟩
  · obtain ⟨h, h'⟩ := h
    have he : encB n = [UInt8.ofNat (192 + n / 64).toNat, UInt8.ofNat (128 + n % 64).toNat] := by simp only [encB, encI]; rw [if_neg (by omega), if_pos h']; rfl
    have hb : bv (encB n) = [.int .u8 (192 + n / 64), .int .u8 (128 + n % 64)] := by rw [he]; simp only [bv, List.map_cons, List.map_nil]; rw [u8_of (by omega) (by omega), u8_of (by omega) (by omega)]
    rw [hb, he]; clear hb he
    go_enter Tryz.func151, Tryz.ntmps151
    go_wp2
    go_ret
    exact ⟨rfl, rfl⟩
  · obtain ⟨h, h'⟩ := h
    have he : encB n = [UInt8.ofNat (224 + n / 4096).toNat, UInt8.ofNat (128 + n / 64 % 64).toNat, UInt8.ofNat (128 + n % 64).toNat] := by simp only [encB, encI]; rw [if_neg (by omega), if_neg (by omega), if_pos h']; rfl
    have hb : bv (encB n) = [.int .u8 (224 + n / 4096), .int .u8 (128 + n / 64 % 64), .int .u8 (128 + n % 64)] := by rw [he]; simp only [bv, List.map_cons, List.map_nil]; rw [u8_of (by omega) (by omega), u8_of (by omega) (by omega), u8_of (by omega) (by omega)]
    rw [hb, he]; clear hb he
    go_enter Tryz.func151, Tryz.ntmps151
    go_wp2
    go_ret
    exact ⟨rfl, rfl⟩
  · have he : encB n = [UInt8.ofNat (240 + n / 262144).toNat, UInt8.ofNat (128 + n / 4096 % 64).toNat, UInt8.ofNat (128 + n / 64 % 64).toNat, UInt8.ofNat (128 + n % 64).toNat] := by simp only [encB, encI]; rw [if_neg (by omega), if_neg (by omega), if_neg (by omega)]; rfl
    have hb : bv (encB n) = [.int .u8 (240 + n / 262144), .int .u8 (128 + n / 4096 % 64), .int .u8 (128 + n / 64 % 64), .int .u8 (128 + n % 64)] := by rw [he]; simp only [bv, List.map_cons, List.map_nil]; rw [u8_of (by omega) (by omega), u8_of (by omega) (by omega), u8_of (by omega) (by omega), u8_of (by omega) (by omega)]
    rw [hb, he]; clear hb he
    go_enter Tryz.func151, Tryz.ntmps151
    go_wp2
    go_ret
    exact ⟨rfl, rfl⟩

/-- What the short escapes say; -1: it is none. -/
def shortE (c : Int) : Int :=
  if c = 34 then 34 else if c = 92 then 92 else if c = 47 then 47 else if c = 98 then 8 else if c = 102 then 12 else if c = 110 then 10 else if c = 114 then 13 else if c = 116 then 9 else -1

/-- 'escaped' as a function of the place behind the backslash: the bytes, the place behind, what is wrong. -/
def escpR (s : ByteArray) (k : Nat) : List UInt8 × Nat × Int :=
  if gb s k = 117 then
    let r := escR s (k + 1) (-1)
    if r.2.2 < 0 then (encB r.1, r.2.1, r.2.2) else ([], r.2.1, r.2.2)
  else if 0 ≤ shortE (gb s k) then ([UInt8.ofNat (shortE (gb s k)).toNat], k + 1, -1) else ([], k, k)

theorem hexR_dead (s : ByteArray) (k : Nat) (bad lo hi : Int) (h : 0 ≤ bad) : (hexR s k bad lo hi).2.2 = bad := by
  unfold hexR; split
  · exact failed_dead k h
  · rfl
theorem hexR_good {s : ByteArray} {k : Nat} {bad lo hi : Int} {a : Int} {k' : Nat} {bad' : Int} (h : hexR s k bad lo hi = (a, k', bad')) (hb : bad' < 0) : lo ≤ a ∧ a ≤ hi ∧ bad = bad' ∧ k' = k + 1 ∧ k < s.size := by
  unfold hexR at h; split at h
  · simp only [Prod.mk.injEq] at h
    obtain ⟨_, _, h3⟩ := h
    have := @failed_ge k bad; omega
  · rename_i hn
    simp only [Prod.mk.injEq] at h
    obtain ⟨h1, h2, h3⟩ := h
    have h0 : 0 ≤ cv s k bad := by
      rcases Int.lt_or_le (cv s k bad) 0 with hh | hh
      · have := hexv_neg hh; omega
      · exact hh
    have := (cv_lt h0).1
    omega

theorem wordR_dead {s : ByteArray} : ∀ {l : List UInt8} {k : Nat} {bad : Int} {k' : Nat} {bad' : Int}, wordR s k bad l = (k', bad') → bad' < 0 → bad = bad' ∧ k' = k + l.length
  | [], k, bad, k', bad', h, hb => by simp only [wordR, Prod.mk.injEq] at h; simp; omega
  | c :: cs, k, bad, k', bad', h, hb => by
    simp only [wordR] at h; split at h
    · have := wordR_dead h hb; simp; omega
    · simp only [Prod.mk.injEq] at h; have := @failed_ge k bad; omega

/-- A code point that was read is one, and its text was there. -/
theorem escR_good {s : ByteArray} {k : Nat} (hb : (escR s k (-1)).2.2 < 0) : 0 ≤ (escR s k (-1)).1 ∧ (escR s k (-1)).1 < 1114112 ∧ k + 4 ≤ (escR s k (-1)).2.1 ∧ (escR s k (-1)).2.1 ≤ s.size ∧ (escR s k (-1)).2.2 = -1 ∧ ((escR s k (-1)).1 < 55296 ∨ 57343 < (escR s k (-1)).1) := by
  obtain ⟨a, k1, b1, h1⟩ : ∃ a k1 b1, hexR s k (-1) 0 15 = (a, k1, b1) := ⟨_, _, _, rfl⟩
  obtain ⟨m, hm⟩ : ∃ m : Int, m = if a = 13 then 11 else 15 := ⟨_, rfl⟩
  obtain ⟨b, k2, b2, h2⟩ : ∃ b k2 b2, hexR s k1 b1 0 m = (b, k2, b2) := ⟨_, _, _, rfl⟩
  obtain ⟨c, k3, b3, h3⟩ : ∃ c k3 b3, hexR s k2 b2 0 15 = (c, k3, b3) := ⟨_, _, _, rfl⟩
  obtain ⟨d, k4, b4, h4⟩ : ∃ d k4 b4, hexR s k3 b3 0 15 = (d, k4, b4) := ⟨_, _, _, rfl⟩
  by_cases hn : a ≠ 13 ∨ b < 8
  · rw [escR_one h1 hm h2 h3 h4 hn] at hb ⊢
    simp only at hb ⊢
    have g4 := hexR_good h4 hb
    have g3 := hexR_good h3 (by omega)
    have g2 := hexR_good h2 (by omega)
    have g1 := hexR_good h1 (by omega)
    split at hm <;> omega
  · obtain ⟨k5, b5, h5⟩ : ∃ k5 b5, wordR s k4 b4 [92, 117] = (k5, b5) := ⟨_, _, rfl⟩
    obtain ⟨x, k6, b6, h6⟩ : ∃ x k6 b6, hexR s k5 b5 13 13 = (x, k6, b6) := ⟨_, _, _, rfl⟩
    obtain ⟨e, k7, b7, h7⟩ : ∃ e k7 b7, hexR s k6 b6 12 15 = (e, k7, b7) := ⟨_, _, _, rfl⟩
    obtain ⟨f, k8, b8, h8⟩ : ∃ f k8 b8, hexR s k7 b7 0 15 = (f, k8, b8) := ⟨_, _, _, rfl⟩
    obtain ⟨g, k9, b9, h9⟩ : ∃ g k9 b9, hexR s k8 b8 0 15 = (g, k9, b9) := ⟨_, _, _, rfl⟩
    rw [escR_two h1 hm h2 h3 h4 (by omega) (by omega) h5 h6 h7 h8 h9] at hb ⊢
    simp only at hb ⊢
    have g9 := hexR_good h9 hb
    have g8 := hexR_good h8 (by omega)
    have g7 := hexR_good h7 (by omega)
    have g6 := hexR_good h6 (by omega)
    have g5 := wordR_dead h5 (by omega)
    have g4 := hexR_good h4 (by omega)
    have g3 := hexR_good h3 (by omega)
    have g2 := hexR_good h2 (by omega)
    have g1 := hexR_good h1 (by omega)
    simp at g5
    split at hm <;> omega

theorem escape_ex (b : Nat) (s : ByteArray) (k : Nat) (d bad : Int) (lg : Bool) (w : World) (hb : w.heap[b]? = some (rblk s k d bad lg)) (hs : s.size ≤ 1000) (hbad : -1 ≤ bad) :
    Calls Tryz.prog 150 #[.pointer (some ⟨b, 0, none⟩)] w fun e w' => ∃ n k' bad', e = .returned (.int .i64 n) ∧ But b w w' ∧ w'.heap[b]? = some (rblk s k' d bad' lg) ∧ Hid (escR s k bad = (n, k', bad')) := by
  refine (escape_any b s k d bad lg w hb hs hbad).mono ?_
  rintro e w' ⟨rfl, h1, h2⟩
  exact ⟨_, _, _, rfl, h1, h2, rfl⟩

end Go.Proofs.YtjaoocincdoaaaaGreatDoor

namespace Go.Proofs.YtjaoocincdoaaaaGreatDoor
open Go.RowKit J

set_option linter.unusedVariables false

theorem new_cells (w : World) (news : List UInt8) (t : TypeId) : ∀ j u, (bv news)[j]? = some u → (w.alloc (.cells (bv news).toArray t)).cell? ((⟨w.heap.size, 0, none⟩ : Addr).add j) = some u := by
  intro j u hj
  rw [Addr.add_lit, cell_of_row _ _ _ (bv news).toArray t (0, 0) (heap_alloc_new w _)]
  simpa using hj

theorem one_new {W : World} {n : Nat} (hW : W.heap.size = n) (x : UInt8) (t : TypeId) {y : Int} (hy : (x.toNat : Int) = y) : ∀ j u, (bv [x])[j]? = some u → (W.alloc (.cells #[.int .u8 y] t)).cell? ((⟨n, 0, none⟩ : Addr).add j) = some u := by
  subst hW; subst hy
  exact cell_one_new W _ t

theorem encB_len (m : Int) : (encB m).length ≤ 4 := by
  simp only [encB, List.length_map]
  unfold encI
  split
  · simp
  · split
    · simp
    · split <;> simp

theorem shortE_none {c : Int} (h1 : c ≠ 34) (h2 : c ≠ 92) (h3 : c ≠ 47) (h4 : c ≠ 98) (h5 : c ≠ 102) (h6 : c ≠ 110) (h7 : c ≠ 114) (h8 : c ≠ 116) : shortE c = -1 := by
  unfold shortE
  rw [if_neg h1, if_neg h2, if_neg h3, if_neg h4, if_neg h5, if_neg h6, if_neg h7, if_neg h8]

theorem escpR_u {s : ByteArray} {k : Nat} {n : Int} {k' : Nat} {bad' : Int} (hc : gb s k = 117) (h : escR s (k + 1) (-1) = (n, k', bad')) : escpR s k = (if bad' < 0 then encB n else [], k', bad') := by
  unfold escpR
  rw [if_pos hc, h]
  simp only
  split <;> rfl
theorem escpR_short {s : ByteArray} {k : Nat} {c : Int} {u : UInt8} (hc : gb s k = c) (h : c ≠ 117) (h0 : 0 ≤ shortE c) (hu : UInt8.ofNat (shortE c).toNat = u) : escpR s k = ([u], k + 1, -1) := by
  unfold escpR
  rw [hc, if_neg h, if_pos h0, hu]
theorem escpR_no {s : ByteArray} {k : Nat} {c : Int} (hc : gb s k = c) (h : c ≠ 117) (h0 : shortE c = -1) : escpR s k = ([], k, (k : Int)) := by
  unfold escpR
  rw [hc, if_neg h, h0, if_neg (by omega)]

set_option maxHeartbeats 2000000 in
theorem escaped_u (b : Nat) (s : ByteArray) (k : Nat) (d : Int) (lg : Bool) (w : World) (N : Nat) (v : Value) (l : List UInt8) (hb : w.heap[b]? = some (rblk s k d (-1) lg)) (hs : s.size ≤ 1000) (hown : OB w N v l) (hbN : b < N) (hN : N ≤ w.heap.size) (hl : l.length ≤ 10000) (hc : gb s k = 117) :
    Calls Tryz.prog 122 #[.pointer (some ⟨b, 0, none⟩), v] w fun e w' => ∃ v', e = .returned v' ∧ Bel N b w w' ∧ w'.heap[b]? = some (rblk s (escpR s k).2.1 d (escpR s k).2.2 lg) ∧ OB w' N v' (l ++ (escpR s k).1) := by
  obtain ⟨g0, g1, g2, g3, g4, hf⟩ := rcells hb
  have HB : Hid (w.heap[b]? = some (rblk s k d (-1) lg)) := hb
  have HC : Hid (gb s k = 117) := hc
  have hk : k < s.size := lt_of_gb (by omega)
  clear hb g0 g2 g3 g4 hc
  go_enter Tryz.func122, Tryz.ntmps122
  go_wp2_with (go_at_call 79; refine (c_any b s k d (-1) lg _ (by exact HB.out)).mono ?_; rintro e w' ⟨rfl, n, rfl⟩; rw [cv_good, HC.out])
  refine (escape_ex b s (k + 1) d (-1) lg _ (by exact rset_at (w := w) HB.out (k + 1) (by omega)) hs (by omega)).mono ?_
  rintro e w2 ⟨m, k', bad', rfl, hbut2, hblk2, hr⟩
  have hbut : But b w w2 := But.trans (((But.refl b w).setCell _ _).drewN _) hbut2
  have HF := escpR_u HC.out hr.out
  have hown2 := hown.kept hbut hbN
  have hN2 := hbut.size
  obtain ⟨c0, c1, c2, c3, c4, hf2⟩ := rcells hblk2
  clear c0 c1 c2 c4 hf2 g1 hf hbut2
  by_cases hneg : bad' < 0
  · have hg := escR_good (s := s) (k := k + 1) (by rw [hr.out]; exact hneg)
    rw [hr.out] at hg
    simp only at hg
    obtain ⟨hg1, hg2, hg3, hg4, rfl, hg6⟩ := hg
    rw [if_pos (by omega)] at HF
    have HF2 : Hid (escpR s k = (encB m, k', -1)) := HF
    have HBLK : Hid (w2.heap[b]? = some (rblk s k' d (-1) lg)) := hblk2
    clear HF hr hblk2 hg6
    go_wp2_with (first
      | (go_at_call 151; refine (encoded_any m _ hg1 hg2).mono ?_; rintro e w3 ⟨rfl, rfl⟩)
      | (at_builtin; refine app_bytes rfl (.tmp 28) (.tmp 29) rfl N v l rfl (hown2.alloc _) ⟨w2.heap.size, 0, none⟩ _ _ (encB m) rfl rfl (new_cells w2 (encB m) 5) ?cl (by simp; omega) ?_))
    case cl => have := encB_len m; omega
    intro v' w4 hown4 hgr
    have hB : Bel N b w w4 := (((Bel.of_but hbut hN).alloc (by omega) _)).trans (Bel.of_grown hgr (by simp; omega) hown2.below)
    have hblk4 : w4.heap[b]? = some (rblk s k' d (-1) lg) := by
      rw [hgr.block b (by simp; omega) (by intro e; have := hown2.below b e.symm; omega), Below.heap_alloc _ _ _ (by omega)]; exact HBLK.out
    go_wp2
    go_ret
    exact ⟨v', rfl, hB, by rw [HF2.out]; exact hblk4, by rw [HF2.out]; exact hown4⟩
  · rw [if_neg hneg] at HF
    have HF2 : Hid (escpR s k = ([], k', bad')) := HF
    have HBLK : Hid (w2.heap[b]? = some (rblk s k' d bad' lg)) := hblk2
    clear HF hr hblk2
    go_wp2
    go_ret
    exact ⟨v, rfl, Bel.of_but hbut hN, by rw [HF2.out]; exact HBLK.out, by rw [HF2.out, List.append_nil]; exact hown2⟩

set_option maxHeartbeats 4000000 in
theorem escaped_c (b : Nat) (s : ByteArray) (k : Nat) (d : Int) (lg : Bool) (w : World) (N : Nat) (v : Value) (l : List UInt8) (hb : w.heap[b]? = some (rblk s k d (-1) lg)) (hs : s.size ≤ 1000) (hown : OB w N v l) (hbN : b < N) (hN : N ≤ w.heap.size) (hl : l.length ≤ 10000) (hc : gb s k ≠ 117) (hkk : k ≤ s.size) :
    Calls Tryz.prog 122 #[.pointer (some ⟨b, 0, none⟩), v] w fun e w' => ∃ v', e = .returned v' ∧ Bel N b w w' ∧ w'.heap[b]? = some (rblk s (escpR s k).2.1 d (escpR s k).2.2 lg) ∧ OB w' N v' (l ++ (escpR s k).1) := by
  obtain ⟨g0, g1, g2, g3, g4, hf⟩ := rcells hb
  have HB : Hid (w.heap[b]? = some (rblk s k d (-1) lg)) := hb
  obtain ⟨c, hcc⟩ : ∃ c, c = gb s k := ⟨_, rfl⟩
  have hcb := gb_bd s k
  rw [← hcc] at hc hcb
  have HC : Hid (c = gb s k) := hcc
  clear hb g0 g2 g3 g4 hcc
  have hbut0 : ∀ n, But b w ((w.drewN n).setCell ⟨b, 1, none⟩ (.int .i64 (k + 1))) := fun n => ((But.refl b w).drewN n).setCell _ _
  have hown0 : ∀ n, OB ((w.drewN n).setCell ⟨b, 1, none⟩ (.int .i64 (k + 1))) N v l := fun n => hown.kept (hbut0 n) hbN
  have hblk0 : Hid (∀ n, ((w.drewN n).setCell ⟨b, 1, none⟩ (.int .i64 (k + 1))).heap[b]? = some (rblk s (k + 1) d (-1) lg)) := fun n => rset_at (w := w.drewN n) HB.out (k + 1) (by omega)
  have hbw : b < w.heap.size := by omega
  rcases (show c = 34 ∨ c = 92 ∨ c = 47 ∨ c = 98 ∨ c = 102 ∨ c = 110 ∨ c = 114 ∨ c = 116 ∨ (c ≠ 34 ∧ c ≠ 92 ∧ c ≠ 47 ∧ c ≠ 98 ∧ c ≠ 102 ∧ c ≠ 110 ∧ c ≠ 114 ∧ c ≠ 116) from by omega) with rfl | rfl | rfl | rfl | rfl | rfl | rfl | rfl | hn
  · have HF : Hid (escpR s k = ([34], k + 1, -1)) := escpR_short HC.out.symm hc (by decide) (by decide)
    clear hc hcb
    go_enter Tryz.func122, Tryz.ntmps122
    go_wp2_with (first
      | (go_at_call 79; refine (c_any b s k d (-1) lg _ (by exact HB.out)).mono ?_; rintro e w' ⟨rfl, n, rfl⟩; rw [cv_good, ← HC.out])
      | (at_builtin; refine app_bytes rfl (.tmp 44) (.tmp 47) rfl N v l rfl ?h1 _ _ _ [34] rfl rfl ?h2 ?h3 ?h4 ?_))
    case h1 => exact (hown0 _).alloc _
    case h2 => exact one_new (by simp [World.setCell, World.drewN]) _ _ rfl
    case h3 => simp; omega
    case h4 => simp [World.setCell, World.drewN]; omega
    intro v' w4 hown4 hgr
    have hB : Bel N b w w4 := ((Bel.of_but (hbut0 _) hN).alloc (by simp [World.setCell, World.drewN]; omega) _).trans (Bel.of_grown hgr (by simp [World.setCell, World.drewN]; omega) hown.below)
    have hblk4 : w4.heap[b]? = some (rblk s (k + 1) d (-1) lg) := by
      rw [hgr.block b (by simp [World.setCell, World.drewN]; omega) (by intro e; have := hown.below b e.symm; omega), Below.heap_alloc _ _ _ (by simp [World.setCell, World.drewN]; omega)]; exact hblk0.out _
    clear hgr
    go_wp2
    go_ret
    exact ⟨v', rfl, hB, by rw [HF.out]; exact hblk4, by rw [HF.out]; exact hown4⟩
  · have HF : Hid (escpR s k = ([92], k + 1, -1)) := escpR_short HC.out.symm hc (by decide) (by decide)
    clear hc hcb
    go_enter Tryz.func122, Tryz.ntmps122
    go_wp2_with (first
      | (go_at_call 79; refine (c_any b s k d (-1) lg _ (by exact HB.out)).mono ?_; rintro e w' ⟨rfl, n, rfl⟩; rw [cv_good, ← HC.out])
      | (at_builtin; refine app_bytes rfl (.tmp 44) (.tmp 47) rfl N v l rfl ?h1 _ _ _ [92] rfl rfl ?h2 ?h3 ?h4 ?_))
    case h1 => exact (hown0 _).alloc _
    case h2 => exact one_new (by simp [World.setCell, World.drewN]) _ _ rfl
    case h3 => simp; omega
    case h4 => simp [World.setCell, World.drewN]; omega
    intro v' w4 hown4 hgr
    have hB : Bel N b w w4 := ((Bel.of_but (hbut0 _) hN).alloc (by simp [World.setCell, World.drewN]; omega) _).trans (Bel.of_grown hgr (by simp [World.setCell, World.drewN]; omega) hown.below)
    have hblk4 : w4.heap[b]? = some (rblk s (k + 1) d (-1) lg) := by
      rw [hgr.block b (by simp [World.setCell, World.drewN]; omega) (by intro e; have := hown.below b e.symm; omega), Below.heap_alloc _ _ _ (by simp [World.setCell, World.drewN]; omega)]; exact hblk0.out _
    clear hgr
    go_wp2
    go_ret
    exact ⟨v', rfl, hB, by rw [HF.out]; exact hblk4, by rw [HF.out]; exact hown4⟩
  · have HF : Hid (escpR s k = ([47], k + 1, -1)) := escpR_short HC.out.symm hc (by decide) (by decide)
    clear hc hcb
    go_enter Tryz.func122, Tryz.ntmps122
    go_wp2_with (first
      | (go_at_call 79; refine (c_any b s k d (-1) lg _ (by exact HB.out)).mono ?_; rintro e w' ⟨rfl, n, rfl⟩; rw [cv_good, ← HC.out])
      | (at_builtin; refine app_bytes rfl (.tmp 44) (.tmp 47) rfl N v l rfl ?h1 _ _ _ [47] rfl rfl ?h2 ?h3 ?h4 ?_))
    case h1 => exact (hown0 _).alloc _
    case h2 => exact one_new (by simp [World.setCell, World.drewN]) _ _ rfl
    case h3 => simp; omega
    case h4 => simp [World.setCell, World.drewN]; omega
    intro v' w4 hown4 hgr
    have hB : Bel N b w w4 := ((Bel.of_but (hbut0 _) hN).alloc (by simp [World.setCell, World.drewN]; omega) _).trans (Bel.of_grown hgr (by simp [World.setCell, World.drewN]; omega) hown.below)
    have hblk4 : w4.heap[b]? = some (rblk s (k + 1) d (-1) lg) := by
      rw [hgr.block b (by simp [World.setCell, World.drewN]; omega) (by intro e; have := hown.below b e.symm; omega), Below.heap_alloc _ _ _ (by simp [World.setCell, World.drewN]; omega)]; exact hblk0.out _
    clear hgr
    go_wp2
    go_ret
    exact ⟨v', rfl, hB, by rw [HF.out]; exact hblk4, by rw [HF.out]; exact hown4⟩
  · have HF : Hid (escpR s k = ([8], k + 1, -1)) := escpR_short HC.out.symm hc (by decide) (by decide)
    clear hc hcb
    go_enter Tryz.func122, Tryz.ntmps122
    go_wp2_with (first
      | (go_at_call 79; refine (c_any b s k d (-1) lg _ (by exact HB.out)).mono ?_; rintro e w' ⟨rfl, n, rfl⟩; rw [cv_good, ← HC.out])
      | (at_builtin; refine app_bytes rfl (.tmp 51) (.tmp 52) rfl N v l rfl ?h1 _ _ _ [8] rfl rfl ?h2 ?h3 ?h4 ?_))
    case h1 => exact (hown0 _).alloc _
    case h2 => exact one_new (by simp [World.setCell, World.drewN]) _ _ rfl
    case h3 => simp; omega
    case h4 => simp [World.setCell, World.drewN]; omega
    intro v' w4 hown4 hgr
    have hB : Bel N b w w4 := ((Bel.of_but (hbut0 _) hN).alloc (by simp [World.setCell, World.drewN]; omega) _).trans (Bel.of_grown hgr (by simp [World.setCell, World.drewN]; omega) hown.below)
    have hblk4 : w4.heap[b]? = some (rblk s (k + 1) d (-1) lg) := by
      rw [hgr.block b (by simp [World.setCell, World.drewN]; omega) (by intro e; have := hown.below b e.symm; omega), Below.heap_alloc _ _ _ (by simp [World.setCell, World.drewN]; omega)]; exact hblk0.out _
    clear hgr
    go_wp2
    go_ret
    exact ⟨v', rfl, hB, by rw [HF.out]; exact hblk4, by rw [HF.out]; exact hown4⟩
  · have HF : Hid (escpR s k = ([12], k + 1, -1)) := escpR_short HC.out.symm hc (by decide) (by decide)
    clear hc hcb
    go_enter Tryz.func122, Tryz.ntmps122
    go_wp2_with (first
      | (go_at_call 79; refine (c_any b s k d (-1) lg _ (by exact HB.out)).mono ?_; rintro e w' ⟨rfl, n, rfl⟩; rw [cv_good, ← HC.out])
      | (at_builtin; refine app_bytes rfl (.tmp 56) (.tmp 57) rfl N v l rfl ?h1 _ _ _ [12] rfl rfl ?h2 ?h3 ?h4 ?_))
    case h1 => exact (hown0 _).alloc _
    case h2 => exact one_new (by simp [World.setCell, World.drewN]) _ _ rfl
    case h3 => simp; omega
    case h4 => simp [World.setCell, World.drewN]; omega
    intro v' w4 hown4 hgr
    have hB : Bel N b w w4 := ((Bel.of_but (hbut0 _) hN).alloc (by simp [World.setCell, World.drewN]; omega) _).trans (Bel.of_grown hgr (by simp [World.setCell, World.drewN]; omega) hown.below)
    have hblk4 : w4.heap[b]? = some (rblk s (k + 1) d (-1) lg) := by
      rw [hgr.block b (by simp [World.setCell, World.drewN]; omega) (by intro e; have := hown.below b e.symm; omega), Below.heap_alloc _ _ _ (by simp [World.setCell, World.drewN]; omega)]; exact hblk0.out _
    clear hgr
    go_wp2
    go_ret
    exact ⟨v', rfl, hB, by rw [HF.out]; exact hblk4, by rw [HF.out]; exact hown4⟩
  · have HF : Hid (escpR s k = ([10], k + 1, -1)) := escpR_short HC.out.symm hc (by decide) (by decide)
    clear hc hcb
    go_enter Tryz.func122, Tryz.ntmps122
    go_wp2_with (first
      | (go_at_call 79; refine (c_any b s k d (-1) lg _ (by exact HB.out)).mono ?_; rintro e w' ⟨rfl, n, rfl⟩; rw [cv_good, ← HC.out])
      | (at_builtin; refine app_bytes rfl (.tmp 61) (.tmp 62) rfl N v l rfl ?h1 _ _ _ [10] rfl rfl ?h2 ?h3 ?h4 ?_))
    case h1 => exact (hown0 _).alloc _
    case h2 => exact one_new (by simp [World.setCell, World.drewN]) _ _ rfl
    case h3 => simp; omega
    case h4 => simp [World.setCell, World.drewN]; omega
    intro v' w4 hown4 hgr
    have hB : Bel N b w w4 := ((Bel.of_but (hbut0 _) hN).alloc (by simp [World.setCell, World.drewN]; omega) _).trans (Bel.of_grown hgr (by simp [World.setCell, World.drewN]; omega) hown.below)
    have hblk4 : w4.heap[b]? = some (rblk s (k + 1) d (-1) lg) := by
      rw [hgr.block b (by simp [World.setCell, World.drewN]; omega) (by intro e; have := hown.below b e.symm; omega), Below.heap_alloc _ _ _ (by simp [World.setCell, World.drewN]; omega)]; exact hblk0.out _
    clear hgr
    go_wp2
    go_ret
    exact ⟨v', rfl, hB, by rw [HF.out]; exact hblk4, by rw [HF.out]; exact hown4⟩
  · have HF : Hid (escpR s k = ([13], k + 1, -1)) := escpR_short HC.out.symm hc (by decide) (by decide)
    clear hc hcb
    go_enter Tryz.func122, Tryz.ntmps122
    go_wp2_with (first
      | (go_at_call 79; refine (c_any b s k d (-1) lg _ (by exact HB.out)).mono ?_; rintro e w' ⟨rfl, n, rfl⟩; rw [cv_good, ← HC.out])
      | (at_builtin; refine app_bytes rfl (.tmp 66) (.tmp 67) rfl N v l rfl ?h1 _ _ _ [13] rfl rfl ?h2 ?h3 ?h4 ?_))
    case h1 => exact (hown0 _).alloc _
    case h2 => exact one_new (by simp [World.setCell, World.drewN]) _ _ rfl
    case h3 => simp; omega
    case h4 => simp [World.setCell, World.drewN]; omega
    intro v' w4 hown4 hgr
    have hB : Bel N b w w4 := ((Bel.of_but (hbut0 _) hN).alloc (by simp [World.setCell, World.drewN]; omega) _).trans (Bel.of_grown hgr (by simp [World.setCell, World.drewN]; omega) hown.below)
    have hblk4 : w4.heap[b]? = some (rblk s (k + 1) d (-1) lg) := by
      rw [hgr.block b (by simp [World.setCell, World.drewN]; omega) (by intro e; have := hown.below b e.symm; omega), Below.heap_alloc _ _ _ (by simp [World.setCell, World.drewN]; omega)]; exact hblk0.out _
    clear hgr
    go_wp2
    go_ret
    exact ⟨v', rfl, hB, by rw [HF.out]; exact hblk4, by rw [HF.out]; exact hown4⟩
  · have HF : Hid (escpR s k = ([9], k + 1, -1)) := escpR_short HC.out.symm hc (by decide) (by decide)
    clear hc hcb
    go_enter Tryz.func122, Tryz.ntmps122
    go_wp2_with (first
      | (go_at_call 79; refine (c_any b s k d (-1) lg _ (by exact HB.out)).mono ?_; rintro e w' ⟨rfl, n, rfl⟩; rw [cv_good, ← HC.out])
      | (at_builtin; refine app_bytes rfl (.tmp 71) (.tmp 72) rfl N v l rfl ?h1 _ _ _ [9] rfl rfl ?h2 ?h3 ?h4 ?_))
    case h1 => exact (hown0 _).alloc _
    case h2 => exact one_new (by simp [World.setCell, World.drewN]) _ _ rfl
    case h3 => simp; omega
    case h4 => simp [World.setCell, World.drewN]; omega
    intro v' w4 hown4 hgr
    have hB : Bel N b w w4 := ((Bel.of_but (hbut0 _) hN).alloc (by simp [World.setCell, World.drewN]; omega) _).trans (Bel.of_grown hgr (by simp [World.setCell, World.drewN]; omega) hown.below)
    have hblk4 : w4.heap[b]? = some (rblk s (k + 1) d (-1) lg) := by
      rw [hgr.block b (by simp [World.setCell, World.drewN]; omega) (by intro e; have := hown.below b e.symm; omega), Below.heap_alloc _ _ _ (by simp [World.setCell, World.drewN]; omega)]; exact hblk0.out _
    clear hgr
    go_wp2
    go_ret
    exact ⟨v', rfl, hB, by rw [HF.out]; exact hblk4, by rw [HF.out]; exact hown4⟩
  · obtain ⟨n1, n2, n3, n4, n5, n6, n7, n8⟩ := hn
    have HF : Hid (escpR s k = ([], k, (k : Int))) := escpR_no HC.out.symm hc (shortE_none n1 n2 n3 n4 n5 n6 n7 n8)
    have e0 : (c == 117) = false := beq_eq_false_iff_ne.2 hc
    have e1 : (c == 34) = false := beq_eq_false_iff_ne.2 n1
    have e2 : (c == 92) = false := beq_eq_false_iff_ne.2 n2
    have e3 : (c == 47) = false := beq_eq_false_iff_ne.2 n3
    have e4 : (c == 98) = false := beq_eq_false_iff_ne.2 n4
    have e5 : (c == 102) = false := beq_eq_false_iff_ne.2 n5
    have e6 : (c == 110) = false := beq_eq_false_iff_ne.2 n6
    have e7 : (c == 114) = false := beq_eq_false_iff_ne.2 n7
    have e8 : (c == 116) = false := beq_eq_false_iff_ne.2 n8
    clear n1 n2 n3 n4 n5 n6 n7 n8 hc hown0
    go_enter Tryz.func122, Tryz.ntmps122
    go_wp2_with (first
      | (go_at_call 79; refine (c_any b s k d (-1) lg _ (by exact HB.out)).mono ?_; rintro e w' ⟨rfl, n, rfl⟩; rw [cv_good, ← HC.out])
      | (go_at_call 87; refine (fail_good b s k d lg _ (by exact rset_at (hblk0.out _) k rfl)).mono ?_; rintro e w3 ⟨rfl, hbut3, hblk3⟩))
    go_ret
    have hbut : But b w w3 := ((hbut0 _).setCell _ _).trans hbut3
    exact ⟨v, rfl, Bel.of_but hbut hN, by rw [HF.out]; exact hblk3, by rw [HF.out, List.append_nil]; exact hown.kept hbut hbN⟩

theorem escaped_any (b : Nat) (s : ByteArray) (k : Nat) (d : Int) (lg : Bool) (w : World) (N : Nat) (v : Value) (l : List UInt8) (hb : w.heap[b]? = some (rblk s k d (-1) lg)) (hs : s.size ≤ 1000) (hown : OB w N v l) (hbN : b < N) (hN : N ≤ w.heap.size) (hl : l.length ≤ 10000) (hkk : k ≤ s.size) :
    Calls Tryz.prog 122 #[.pointer (some ⟨b, 0, none⟩), v] w fun e w' => ∃ v', e = .returned v' ∧ Bel N b w w' ∧ w'.heap[b]? = some (rblk s (escpR s k).2.1 d (escpR s k).2.2 lg) ∧ OB w' N v' (l ++ (escpR s k).1) := by
  by_cases hc : gb s k = 117
  · exact escaped_u b s k d lg w N v l hb hs hown hbN hN hl hc
  · exact escaped_c b s k d lg w N v l hb hs hown hbN hN hl hc hkk

end Go.Proofs.YtjaoocincdoaaaaGreatDoor

namespace Go.Proofs.YtjaoocincdoaaaaGreatDoor
open Go.RowKit J

set_option linter.unusedVariables false

/-- 'text' behind the first quote, as a function of the place: the bytes, the place behind, what is wrong. -/
def textF (s : ByteArray) : Nat → Nat → List UInt8 → List UInt8 × Nat × Int
  | 0, k, _ => ([], k, k)
  | f + 1, k, acc =>
    if gb s k = 34 then (acc, k + 1, -1) else if gb s k < 32 then ([], k, k)
    else if 127 < gb s k then (if (manyR s k (-1)).2 < 0 then textF s f (manyR s k (-1)).1 (acc ++ (s.extract k (manyR s k (-1)).1).data.toList) else ([], (manyR s k (-1)).1, (manyR s k (-1)).2))
    else if gb s k = 92 then (if (escpR s (k + 1)).2.2 < 0 then textF s f (escpR s (k + 1)).2.1 (acc ++ (escpR s (k + 1)).1) else ([], (escpR s (k + 1)).2.1, (escpR s (k + 1)).2.2))
    else textF s f (k + 1) (acc ++ [UInt8.ofNat (gb s k).toNat])

def textR (s : ByteArray) (k : Nat) : List UInt8 × Nat × Int := if gb s k = 34 then textF s (s.size + 1) (k + 1) [] else ([], k, k)

theorem fromR_good {s : ByteArray} {k : Nat} {bad lo hi : Int} {a : Int} {k' : Nat} {bad' : Int} (h : fromR s k bad lo hi = (a, k', bad')) (hlo : 0 ≤ lo) (hb : bad' < 0) : lo ≤ a ∧ a ≤ hi ∧ bad = bad' ∧ k' = k + 1 ∧ k < s.size ∧ a = gb s k := by
  unfold fromR at h; split at h
  · rename_i hn
    simp only [Prod.mk.injEq] at h
    obtain ⟨h1, h2, h3⟩ := h
    have h0 := cv_lt (show 0 ≤ cv s k bad by omega)
    have : cv s k bad = gb s k := by unfold cv; rw [if_neg (by omega)]
    omega
  · simp only [Prod.mk.injEq] at h
    have := @failed_ge k bad; omega

theorem manyR_good {s : ByteArray} {k : Nat} (hb : (manyR s k (-1)).2 < 0) : k + 2 ≤ (manyR s k (-1)).1 ∧ (manyR s k (-1)).1 ≤ s.size ∧ (manyR s k (-1)).1 ≤ k + 4 ∧ (manyR s k (-1)).2 = -1 := by
  obtain ⟨a, k1, b1, h1⟩ : ∃ a k1 b1, fromR s k (-1) 194 244 = (a, k1, b1) := ⟨_, _, _, rfl⟩
  obtain ⟨lo, hlo⟩ : ∃ lo : Int, lo = if a = 240 then 144 else if a = 224 then 160 else 128 := ⟨_, rfl⟩
  obtain ⟨hi, hhi⟩ : ∃ hi : Int, hi = if a = 244 then 143 else if a = 237 then 159 else 191 := ⟨_, rfl⟩
  have hlo0 : 0 ≤ lo := by rw [hlo]; repeat' split <;> omega
  obtain ⟨a2, k2, b2, h2⟩ : ∃ a2 k2 b2, fromR s k1 b1 lo hi = (a2, k2, b2) := ⟨_, _, _, rfl⟩
  rcases (show a < 224 ∨ (224 ≤ a ∧ a < 240) ∨ 240 ≤ a from by omega) with ha | ⟨ha, ha'⟩ | ha
  · have e1 : lo = 128 := by rw [hlo, if_neg (by omega), if_neg (by omega)]
    have e2 : hi = 191 := by rw [hhi, if_neg (by omega), if_neg (by omega)]
    rw [e1, e2] at h2
    rw [manyR_two h1 ha h2] at hb ⊢
    simp only at hb ⊢
    have g2 := fromR_good h2 (by omega) hb
    have g1 := fromR_good h1 (by omega) (by omega)
    omega
  · obtain ⟨a3, k3, b3, h3⟩ : ∃ a3 k3 b3, fromR s k2 b2 128 191 = (a3, k3, b3) := ⟨_, _, _, rfl⟩
    rw [manyR_three h1 ha ha' hlo hhi h2 h3] at hb ⊢
    simp only at hb ⊢
    have g3 := fromR_good h3 (by omega) hb
    have g2 := fromR_good h2 hlo0 (by omega)
    have g1 := fromR_good h1 (by omega) (by omega)
    omega
  · obtain ⟨a3, k3, b3, h3⟩ : ∃ a3 k3 b3, fromR s k2 b2 128 191 = (a3, k3, b3) := ⟨_, _, _, rfl⟩
    obtain ⟨a4, k4, b4, h4⟩ : ∃ a4 k4 b4, fromR s k3 b3 128 191 = (a4, k4, b4) := ⟨_, _, _, rfl⟩
    rw [manyR_four h1 ha hlo hhi h2 h3 h4] at hb ⊢
    simp only at hb ⊢
    have g4 := fromR_good h4 (by omega) hb
    have g3 := fromR_good h3 (by omega) (by omega)
    have g2 := fromR_good h2 hlo0 (by omega)
    have g1 := fromR_good h1 (by omega) (by omega)
    omega

theorem shortE_lt {s : ByteArray} {k : Nat} (h : 0 ≤ shortE (gb s k)) : k < s.size := by
  apply lt_of_gb
  rcases Int.lt_or_le (gb s k) 0 with hh | hh
  · rw [shortE_none (by omega) (by omega) (by omega) (by omega) (by omega) (by omega) (by omega) (by omega)] at h; omega
  · exact hh

theorem escpR_good {s : ByteArray} {k : Nat} (hb : (escpR s k).2.2 < 0) : k < (escpR s k).2.1 ∧ (escpR s k).2.1 ≤ s.size ∧ (escpR s k).2.2 = -1 ∧ (escpR s k).1.length ≤ 4 := by
  by_cases hc : gb s k = 117
  · rw [escpR_u hc (show escR s (k + 1) (-1) = ((escR s (k + 1) (-1)).1, (escR s (k + 1) (-1)).2.1, (escR s (k + 1) (-1)).2.2) from rfl)] at hb ⊢
    simp only at hb ⊢
    have := escR_good (s := s) (k := k + 1) hb
    rw [if_pos hb]
    have h4 := encB_len (escR s (k + 1) (-1)).1
    omega
  · by_cases h0 : 0 ≤ shortE (gb s k)
    · rw [escpR_short rfl hc h0 rfl] at hb ⊢
      have := shortE_lt h0
      simp; omega
    · unfold escpR at hb
      rw [if_neg hc, if_neg h0] at hb
      simp at hb; omega

theorem many_ex (b : Nat) (s : ByteArray) (k : Nat) (d bad : Int) (lg : Bool) (w : World) (hb : w.heap[b]? = some (rblk s k d bad lg)) (hs : s.size ≤ 1000) (hbad : -1 ≤ bad) :
    Calls Tryz.prog 121 #[.pointer (some ⟨b, 0, none⟩)] w fun e w' => ∃ k' bad', e = .returned (.tuple #[]) ∧ But b w w' ∧ w'.heap[b]? = some (rblk s k' d bad' lg) ∧ Hid (manyR s k bad = (k', bad')) := by
  refine (many_any b s k d bad lg w hb hs hbad).mono ?_
  rintro e w' ⟨rfl, h1, h2⟩
  exact ⟨_, _, rfl, h1, h2, rfl⟩

theorem textF_end {s : ByteArray} {f k : Nat} {acc : List UInt8} (h : gb s k = 34) : textF s (f + 1) k acc = (acc, k + 1, -1) := by rw [textF, if_pos h]
theorem textF_low {s : ByteArray} {f k : Nat} {acc : List UInt8} (h : gb s k < 32) : textF s (f + 1) k acc = ([], k, (k : Int)) := by rw [textF, if_neg (by omega), if_pos h]
theorem textF_many {s : ByteArray} {f k : Nat} {acc : List UInt8} {k' : Nat} {bad' : Int} (h : 127 < gb s k) (hm : manyR s k (-1) = (k', bad')) : textF s (f + 1) k acc = if bad' < 0 then textF s f k' (acc ++ (s.extract k k').data.toList) else ([], k', bad') := by
  rw [textF, if_neg (by omega), if_neg (by omega), if_pos h, hm]
theorem textF_esc {s : ByteArray} {f k : Nat} {acc : List UInt8} (h : gb s k = 92) : textF s (f + 1) k acc = if (escpR s (k + 1)).2.2 < 0 then textF s f (escpR s (k + 1)).2.1 (acc ++ (escpR s (k + 1)).1) else ([], (escpR s (k + 1)).2.1, (escpR s (k + 1)).2.2) := by
  rw [textF, if_neg (by omega), if_neg (by omega), if_neg (by omega), if_pos h]
theorem textF_plain {s : ByteArray} {f k : Nat} {acc : List UInt8} (h1 : 32 ≤ gb s k) (h2 : gb s k ≤ 127) (h3 : gb s k ≠ 34) (h4 : gb s k ≠ 92) : textF s (f + 1) k acc = textF s f (k + 1) (acc ++ [UInt8.ofNat (gb s k).toNat]) := by
  rw [textF, if_neg h3, if_neg (by omega), if_neg (by omega), if_neg h4]

theorem lt_of_heap {w : World} {b : Nat} {o : Obj} (h : w.heap[b]? = some o) : b < w.heap.size := (Array.getElem?_eq_some_iff.1 h).1

set_option maxRecDepth 100000 in
set_option maxHeartbeats 4000000 in
theorem text_loop (b : Nat) (s : ByteArray) (k : Nat) (d : Int) (lg : Bool) (w : World) (hb : w.heap[b]? = some (rblk s k d (-1) lg)) (hs : s.size ≤ 1000) (hc : gb s k = 34) :
    Calls Tryz.prog 81 #[.pointer (some ⟨b, 0, none⟩)] w fun e w' => e = .returned (.string ⟨(textR s k).1.toArray⟩) ∧ But b w w' ∧ w'.heap[b]? = some (rblk s (textR s k).2.1 d (textR s k).2.2 lg) := by
  have hk : k < s.size := lt_of_gb (by omega)
  have hbN := lt_of_heap hb
  obtain ⟨N, hN⟩ : ∃ N, N = w.heap.size := ⟨_, rfl⟩
  obtain ⟨R, hR⟩ : ∃ R, R = textR s k := ⟨_, rfl⟩
  have HR : Hid (textF s (s.size + 1) (k + 1) [] = R) := by show _ = _; rw [hR, textR, if_pos hc]
  rw [← hR]
  have HC : Hid (gb s k = 34) := hc
  have HN : Hid (N = w.heap.size) := hN
  have hNle : N ≤ w.heap.size := by omega
  have hbN' : b < N := by omega
  clear hR hc hN
  go_enter Tryz.func81, Tryz.ntmps81
  go_wp2_with fail
  refine (word_ex b s _ k d (-1) lg w hb hs (by omega) (by decide)).mono ?_
  rintro e w1 ⟨k1, bad1, rfl, hbut1, hblk1, hr1, hbad1⟩
  have hw : wordR s k (-1) [34] = (k + 1, -1) := by simp [wordR, cv_good, HC.out]
  have he : (k1, bad1) = (k + 1, (-1 : Int)) := hr1.out.symm.trans hw
  simp only [Prod.mk.injEq] at he
  obtain ⟨rfl, rfl⟩ := he
  clear hr1 hw hbad1 hb
  go_wp2_with fail
  go_loopg [3] (s.size + 1) (fun g out wr => Bel N b w wr ∧ N ≤ wr.heap.size ∧ ((∃ j acc, j ≤ s.size ∧ s.size < j + g ∧ textF s g j acc = R ∧ wr.heap[b]? = some (rblk s j d (-1) lg) ∧ OB wr N out acc ∧ acc.length ≤ 4 * j) ∨ (∃ k' bad', 0 ≤ bad' ∧ R = ([], k', bad') ∧ wr.heap[b]? = some (rblk s k' d bad' lg))))
  case atStart => exact ⟨Bel.of_but hbut1 hNle, Nat.le_trans hNle hbut1.size, Or.inl ⟨k + 1, [], by omega, by omega, HR.out, hblk1, OB.nil _ _, by simp⟩⟩
  case round =>
    obtain ⟨hbel, hsz, hmode⟩ := hrel
    clear hblk1 hbut1
    rcases hmode with ⟨j, acc, hj, hjg, hT, hblk, hown, hlen⟩ | ⟨k', bad', hbad', hRe, hblk⟩
    · obtain ⟨f, rfl⟩ : ∃ f, gk = f + 1 := ⟨gk - 1, by omega⟩
      obtain ⟨g0, g1, g2, g3, g4, hf⟩ := rcells hblk
      have HB : Hid (wr.heap[b]? = some (rblk s j d (-1) lg)) := hblk
      have HT : Hid (textF s (f + 1) j acc = R) := hT
      obtain ⟨c, hcc⟩ : ∃ c, c = gb s j := ⟨_, rfl⟩
      have hcb := gb_bd s j
      rw [← hcc] at hcb
      have HC2 : Hid (c = gb s j) := hcc
      clear hblk hT hcc g2 g4
      rcases (show c = 34 ∨ c < 32 ∨ 127 < c ∨ c = 92 ∨ (32 ≤ c ∧ c ≤ 127 ∧ c ≠ 34 ∧ c ≠ 92) from by omega) with rfl | h | h | rfl | ⟨h1, h2, h3, h4⟩
      · have HF : Hid (R = (acc, j + 1, -1)) := by show _ = _; rw [← HT.out]; exact textF_end HC2.out.symm
        have hj2 : j < s.size := lt_of_gb (by rw [← HC2.out]; omega)
        have hcv : ∀ n, (convert 44 9 u3).run Tryz.prog ((wr.drewN n).setCell ⟨b, 1, none⟩ (.int .i64 (j + 1))) = .ok (.string ⟨acc.toArray⟩) ((wr.drewN n).setCell ⟨b, 1, none⟩ (.int .i64 (j + 1))) :=
          fun n => conv_own (hown.kept (((But.refl b wr).drewN n).setCell _ _) hbN')
        clear hcb g0
        go_wp2_with (go_at_call 79; refine (c_any b s j d (-1) lg _ (by exact HB.out)).mono ?_; rintro e w' ⟨rfl, n, rfl⟩; rw [cv_good, ← HC2.out])
        go_ret
        have hbel' : Bel w.heap.size b w wr := HN.out ▸ hbel
        exact ⟨by rw [HF.out]; rfl, ((hbel'.drewN _).setCell _ _).but, by rw [HF.out]; exact rset_at (w := wr.drewN _) HB.out (j + 1) (by omega)⟩
      · have HF : Hid (R = ([], j, (j : Int))) := by show _ = _; rw [← HT.out]; exact textF_low (by rw [← HC2.out]; exact h)
        clear g0 hown
        go_wp2_with (first
          | (go_at_call 79; refine (c_any b s j d (-1) lg _ (by exact HB.out)).mono ?_; rintro e w' ⟨rfl, n, rfl⟩; rw [cv_good, ← HC2.out])
          | (go_at_call 87; refine (fail_good b s j d lg _ (by exact HB.out)).mono ?_; rintro e w3 ⟨rfl, hbut3, hblk3⟩))
        go_roundg 0
        case measure => omega
        case rel => exact ⟨(hbel.drewN _).trans (Bel.of_but hbut3 hsz), Nat.le_trans hsz hbut3.size, Or.inr ⟨j, j, by omega, HF.out, hblk3⟩⟩
      · clear g0
        go_wp2_with (first
          | (go_at_call 79; refine (c_any b s j d (-1) lg _ (by exact HB.out)).mono ?_; rintro e w' ⟨rfl, n, rfl⟩; rw [cv_good, ← HC2.out])
          | (go_at_call 121; fail))
        refine (many_ex b s j d (-1) lg _ (by exact HB.out) hs (by omega)).mono ?_
        rintro e w3 ⟨k', bad', rfl, hbut3, hblk3, hm⟩
        have HF : Hid (R = if bad' < 0 then textF s f k' (acc ++ (s.extract j k').data.toList) else ([], k', bad')) := by show _ = _; rw [← HT.out]; exact textF_many (by rw [← HC2.out]; exact h) hm.out
        have hbel3 : Bel N b w w3 := (hbel.drewN _).trans (Bel.of_but hbut3 hsz)
        have hsz3 : N ≤ w3.heap.size := Nat.le_trans hsz hbut3.size
        have hown3 : OB w3 N u3 acc := hown.kept (((But.refl b wr).drewN _).trans hbut3) hbN'
        have HM := hm
        clear hm hbut3 g1 g3 hf hown
        obtain ⟨c0, c1, c2, c3, c4, hf3⟩ := rcells hblk3
        have HB3 : Hid (w3.heap[b]? = some (rblk s k' d bad' lg)) := hblk3
        clear hblk3 c2 c4
        by_cases hneg : bad' < 0
        · have hg := manyR_good (s := s) (k := j) (by rw [HM.out]; exact hneg)
          rw [HM.out] at hg
          simp only at hg
          obtain ⟨hg1, hg2, hg3, rfl⟩ := hg
          have HF2 : Hid (R = textF s f k' (acc ++ (s.extract j k').data.toList)) := by show _ = _; rw [HF.out, if_pos (by omega)]
          have hxl : (s.extract j k').size = k' - j := by simp [ByteArray.size_extract]; omega
          have hjk : j ≤ k' := by omega
          clear HF HM hneg
          go_wp2
          go_region_law (refine step_app_str rfl _ _ rfl N u3 acc (by rfl) hown3 (s.extract j k') (by rfl) (by rw [hxl]; omega) hsz3 ?_; intro v' w4 hown4 hgr)
          all_goals
            have hbd : Bel N b w w3.drew := ⟨hbel3.os, hbel3.tape, hbel3.output, hbel3.size, hbel3.block⟩
            have hB : Bel N b w w4 := hbd.trans (Bel.of_grown hgr hsz3 hown3.below)
            have hblk4 : w4.heap[b]? = some (rblk s k' d (-1) lg) := by
              rw [hgr.block b (Nat.lt_of_lt_of_le hbN' hsz3) (by intro e; have := hown3.below b e.symm; omega)]; exact HB3.out
            have hsz4 : N ≤ w4.heap.size := Nat.le_trans hsz3 hgr.size
            have hlen4 : (acc ++ (s.extract j k').data.toList).length ≤ 4 * k' := by
              have h2 : (s.extract j k').data.toList.length = k' - j := hxl
              rw [List.length_append, h2]
              omega
            clear hgr hbd c0 c1 hf3 c3 hxl
            go_wp2
            go_roundg f
            case measure => omega
            case rel => exact ⟨hB, hsz4, Or.inl ⟨k', acc ++ (s.extract j k').data.toList, hg2, by omega, HF2.out.symm, hblk4, hown4, hlen4⟩⟩
        · have HF2 : Hid (R = ([], k', bad')) := by show _ = _; rw [HF.out, if_neg hneg]
          clear HF HM c0 c1 hf3 hown3
          go_wp2
          go_roundg 0
          case measure => omega
          case rel => exact ⟨hbel3, hsz3, Or.inr ⟨k', bad', by omega, HF2.out, HB3.out⟩⟩
      · have hj2 : j < s.size := lt_of_gb (by rw [← HC2.out]; omega)
        have HF : Hid (R = if (escpR s (j + 1)).2.2 < 0 then textF s f (escpR s (j + 1)).2.1 (acc ++ (escpR s (j + 1)).1) else ([], (escpR s (j + 1)).2.1, (escpR s (j + 1)).2.2)) := by show _ = _; rw [← HT.out]; exact textF_esc HC2.out.symm
        clear g0 hcb
        go_wp2_with (first
          | (go_at_call 79; refine (c_any b s j d (-1) lg _ (by exact HB.out)).mono ?_; rintro e w' ⟨rfl, n, rfl⟩; rw [cv_good, ← HC2.out])
          | (go_at_call 122; refine (escaped_any b s (j + 1) d lg _ N u3 acc (by exact rset_at (w := wr.drewN _) HB.out (j + 1) (by omega)) hs (hown.kept (((But.refl b wr).drewN _).setCell _ _) hbN') hbN' (by simp [World.setCell, World.drewN]; omega) (by omega) (by omega)).mono ?_; rintro e w3 ⟨v', rfl, hbel3, hblk3, hown3⟩))
        have hbelA : Bel N b w w3 := ((hbel.drewN _).setCell _ _).trans hbel3
        have hszA : N ≤ w3.heap.size := Nat.le_trans (by simp [World.setCell, World.drewN]; omega) hbel3.size
        by_cases hneg : (escpR s (j + 1)).2.2 < 0
        · have hg := escpR_good hneg
          obtain ⟨hg1, hg2, hg3, hg4⟩ := hg
          go_roundg f
          case measure => omega
          case rel => exact ⟨hbelA, hszA, Or.inl ⟨(escpR s (j + 1)).2.1, acc ++ (escpR s (j + 1)).1, hg2, by omega, by rw [HF.out, if_pos hneg], by rw [← hg3]; exact hblk3, hown3, by rw [List.length_append]; omega⟩⟩
        · go_roundg 0
          case measure => omega
          case rel => exact ⟨hbelA, hszA, Or.inr ⟨(escpR s (j + 1)).2.1, (escpR s (j + 1)).2.2, by omega, by rw [HF.out, if_neg hneg], hblk3⟩⟩
      · have hj2 : j < s.size := lt_of_gb (by rw [← HC2.out]; omega)
        have HF : Hid (R = textF s f (j + 1) (acc ++ [UInt8.ofNat c.toNat])) := by show _ = _; rw [← HT.out, HC2.out]; exact textF_plain (by rw [← HC2.out]; exact h1) (by rw [← HC2.out]; exact h2) (by rw [← HC2.out]; exact h3) (by rw [← HC2.out]; exact h4)
        have e1 : (c == 34) = false := beq_eq_false_iff_ne.2 h3
        have e2 : (c == 92) = false := beq_eq_false_iff_ne.2 h4
        have hown0 : ∀ n, OB ((wr.drewN n).setCell ⟨b, 1, none⟩ (.int .i64 (j + 1))) N u3 acc := fun n => hown.kept (((But.refl b wr).drewN n).setCell _ _) hbN'
        have hcu : ((UInt8.ofNat c.toNat).toNat : Int) = c := by rw [UInt8.toNat_ofNat']; omega
        have HCU : Hid (((UInt8.ofNat c.toNat).toNat : Int) = c) := hcu
        clear g0 h3 h4 hcu
        go_wp2_with (first
          | (go_at_call 79; refine (c_any b s j d (-1) lg _ (by exact HB.out)).mono ?_; rintro e w' ⟨rfl, n, rfl⟩; rw [cv_good, ← HC2.out])
          | (at_builtin; refine app_bytes rfl (.tmp 26) (.tmp 29) rfl N u3 acc rfl ?h1 _ _ _ [UInt8.ofNat c.toNat] rfl rfl ?h2 ?h3 ?h4 ?_))
        case h1 => exact (hown0 _).alloc _
        case h2 => exact one_new (by simp [World.setCell, World.drewN]) _ _ HCU.out
        case h3 => simp; omega
        case h4 => simp [World.setCell, World.drewN]; omega
        intro v' w4 hown4 hgr
        have hB : Bel N b w w4 := (((hbel.drewN _).setCell _ _).alloc (by simp [World.setCell, World.drewN]; omega) _).trans (Bel.of_grown hgr (by simp [World.setCell, World.drewN]; omega) hown.below)
        have hblk4 : w4.heap[b]? = some (rblk s (j + 1) d (-1) lg) := by
          rw [hgr.block b (by simp [World.setCell, World.drewN]; omega) (by intro e; have := hown.below b e.symm; omega), Below.heap_alloc _ _ _ (by simp [World.setCell, World.drewN]; omega)]; exact rset_at (w := wr.drewN _) HB.out (j + 1) (by omega)
        have hsz4 : N ≤ w4.heap.size := Nat.le_trans (by simp [World.setCell, World.drewN]; omega) hgr.size
        clear hgr
        go_wp2
        go_roundg f
        case measure => omega
        case rel => exact ⟨hB, hsz4, Or.inl ⟨j + 1, acc ++ [UInt8.ofNat c.toNat], by omega, by omega, HF.out.symm, hblk4, hown4, by rw [List.length_append]; simp; omega⟩⟩
    · have HBD : Hid (0 ≤ bad') := hbad'
      obtain ⟨g0, g1, g2, g3, g4, hf⟩ := rcells hblk
      have HRe : Hid (R = ([], k', bad')) := hRe
      have HB : Hid (wr.heap[b]? = some (rblk s k' d bad' lg)) := hblk
      clear hRe hblk g0 g1 g2 g4 hf
      go_wp2
      go_ret
      exact ⟨by rw [HRe.out]; rfl, (HN.out ▸ hbel : Bel w.heap.size b w wr).but, by rw [HRe.out]; exact HB.out⟩

theorem text_any (b : Nat) (s : ByteArray) (k : Nat) (d : Int) (lg : Bool) (w : World) (hb : w.heap[b]? = some (rblk s k d (-1) lg)) (hs : s.size ≤ 1000) :
    Calls Tryz.prog 81 #[.pointer (some ⟨b, 0, none⟩)] w fun e w' => e = .returned (.string ⟨(textR s k).1.toArray⟩) ∧ But b w w' ∧ w'.heap[b]? = some (rblk s (textR s k).2.1 d (textR s k).2.2 lg) := by
  by_cases hc : gb s k = 34
  · exact text_loop b s k d lg w hb hs hc
  · have HR : textR s k = ([], k, (k : Int)) := by rw [textR, if_neg hc]
    rw [HR]
    have HC : Hid (gb s k ≠ 34) := hc
    clear hc HR
    go_enter Tryz.func81, Tryz.ntmps81
    go_wp2_with fail
    refine (word_ex b s _ k d (-1) lg w hb hs (by omega) (by decide)).mono ?_
    rintro e w1 ⟨k1, bad1, rfl, hbut1, hblk1, hr1, hbad1⟩
    have hw : wordR s k (-1) [34] = (k, (k : Int)) := by
      simp only [wordR, cv_good]; rw [if_neg (by simpa using HC.out), failed_good]
    have he : (k1, bad1) = (k, (k : Int)) := hr1.out.symm.trans hw
    simp only [Prod.mk.injEq] at he
    obtain ⟨rfl, rfl⟩ := he
    clear hr1 hw hbad1 hb
    obtain ⟨c0, c1, c2, c3, c4, hf3⟩ := rcells hblk1
    have HB : Hid (w1.heap[b]? = some (rblk s k1 d k1 lg)) := hblk1
    clear hblk1 c0 c1 c2 c4 hf3
    go_wp2_with fail
    refine wp_loop_rounds 1 ?_
    rw [rounds_succ]
    go_wp2
    go_ret
    exact ⟨rfl, hbut1, HB.out⟩

end Go.Proofs.YtjaoocincdoaaaaGreatDoor
