/- The document's numbers: exactly what they say. The document's values in memory: the leaves. The document's reader: a number. The document's reader: a number, the walk. The document's values in memory: lists and objects; 'add' and 'put'. What a JSON text says, as plain functions: values by depth, and how they are read. -/
import Derived.Test.YtjaoocincdoaaaaGreatDoorA02
import Derived.Deep.DeepCutAuto
import Derived.Deep.AppendLies
namespace Go.Proofs.YtjaoocincdoaaaaGreatDoor
open Go.RowKit J

set_option linter.unusedVariables false

/-- 'exact' from the i-th digit on, n so far: the millionths; none: it is no number. -/
def exactF (point : Int) : List UInt8 → Nat → Int → Option Int
  | [], _, n => some n
  | c :: cs, i, n =>
    if c = 48 then exactF point cs (i + 1) n
    else if point - i + 5 < 0 ∨ 15 < point - i + 5 then none
    else if 1000000000000000 < n + ((c.toNat : Int) - 48) * 10 ^ (point - i + 5).toNat then none
    else exactF point cs (i + 1) (n + ((c.toNat : Int) - 48) * 10 ^ (point - i + 5).toNat)

def exactR (ds : List UInt8) (point : Int) : Option Int := exactF point ds 0 0

theorem pow10_le {p : Nat} (h : p ≤ 15) : (10 : Int) ^ p ≤ 1000000000000000 ∧ 1 ≤ (10 : Int) ^ p := by
  rcases (show p = 0 ∨ p = 1 ∨ p = 2 ∨ p = 3 ∨ p = 4 ∨ p = 5 ∨ p = 6 ∨ p = 7 ∨ p = 8 ∨ p = 9 ∨ p = 10 ∨ p = 11 ∨ p = 12 ∨ p = 13 ∨ p = 14 ∨ p = 15 from by omega) with rfl | rfl | rfl | rfl | rfl | rfl | rfl | rfl | rfl | rfl | rfl | rfl | rfl | rfl | rfl | rfl <;> decide

theorem mul_pow_bd {d : Int} {p : Nat} (h0 : 0 ≤ d) (h9 : d ≤ 9) (h : p ≤ 15) : 0 ≤ d * 10 ^ p ∧ d * 10 ^ p ≤ 9000000000000000 := by
  have := pow10_le h
  constructor
  · exact Int.mul_nonneg h0 (by omega)
  · exact Int.le_trans (Int.mul_le_mul h9 this.1 (by omega) (by omega)) (by omega)

theorem exactF_end (point : Int) (i : Nat) (n : Int) : exactF point [] i n = some n := rfl
theorem exactF_zero {point : Int} {c : UInt8} {cs : List UInt8} {i : Nat} {n : Int} (h : c = 48) : exactF point (c :: cs) i n = exactF point cs (i + 1) n := by rw [exactF, if_pos h]
theorem exactF_far {point : Int} {c : UInt8} {cs : List UInt8} {i : Nat} {n : Int} (h : c ≠ 48) (hp : point - i + 5 < 0 ∨ 15 < point - i + 5) : exactF point (c :: cs) i n = none := by rw [exactF, if_neg h, if_pos hp]
theorem exactF_big {point : Int} {c : UInt8} {cs : List UInt8} {i : Nat} {n : Int} (h : c ≠ 48) (hp : ¬ (point - i + 5 < 0 ∨ 15 < point - i + 5)) (hb : 1000000000000000 < n + ((c.toNat : Int) - 48) * 10 ^ (point - i + 5).toNat) : exactF point (c :: cs) i n = none := by rw [exactF, if_neg h, if_neg hp, if_pos hb]
theorem exactF_next {point : Int} {c : UInt8} {cs : List UInt8} {i : Nat} {n : Int} (h : c ≠ 48) (hp : ¬ (point - i + 5 < 0 ∨ 15 < point - i + 5)) (hb : ¬ 1000000000000000 < n + ((c.toNat : Int) - 48) * 10 ^ (point - i + 5).toNat) : exactF point (c :: cs) i n = exactF point cs (i + 1) (n + ((c.toNat : Int) - 48) * 10 ^ (point - i + 5).toNat) := by rw [exactF, if_neg h, if_neg hp, if_neg hb]

theorem drop_cons2 (lit : ByteArray) (m : Nat) (h : m < lit.size) : lit.data.toList.drop m = lit[m] :: lit.data.toList.drop (m + 1) := by
  rw [List.drop_eq_getElem_cons (by simpa using h)]; rfl

/-- The pair that 'exact' hands back. -/
def exactV : Option Int → Value
  | some n => .tuple #[.int .i64 n, .bool true]
  | none => .tuple #[.int .i64 0, .bool false]

set_option maxHeartbeats 4000000 in
theorem exact_any (t : ByteArray) (point : Int) (w : World) (ht : t.size ≤ 10000) (hp1 : -2000000 ≤ point) (hp2 : point ≤ 2000000) (hdig : ∀ i (h : i < t.size), 48 ≤ (t[i]'h).toNat ∧ (t[i]'h).toNat ≤ 57) :
    Calls Tryz.prog 124 #[.string t, .int .i64 point] w fun e w' => e = .returned (exactV (exactR t.data.toList point)) ∧ w = w' := by
  have HD : Hid (∀ i (h : i < t.size), 48 ≤ (t[i]'h).toNat ∧ (t[i]'h).toNat ≤ 57) := hdig
  clear hdig
  obtain ⟨R, hR⟩ : ∃ R, R = exactR t.data.toList point := ⟨_, rfl⟩
  have HR : Hid (exactF point t.data.toList 0 0 = R) := hR.symm
  rw [← hR]
  clear hR
  go_enter Tryz.func124, Tryz.ntmps124
  go_wp2_with fail
  go_loopg [6, 7] t.size (fun g n i wr => ∃ (m : Nat) (q : Int), w = wr ∧ m ≤ t.size ∧ g = t.size - m ∧ i = .int .i64 m ∧ n = .int .i64 q ∧ 0 ≤ q ∧ q ≤ 1000000000000000 ∧ exactF point (t.data.toList.drop m) m q = R)
  case atStart => exact ⟨0, 0, rfl, by omega, by omega, rfl, rfl, by omega, by omega, by simpa using HR.out⟩
  case round =>
    obtain ⟨m, q, rfl, hm, hg, rfl, rfl, hq0, hq1, hX⟩ := hrel
    have HG : Hid (gk = t.size - m) := hg
    have HX : Hid (exactF point (t.data.toList.drop m) m q = R) := hX
    clear hg hX
    by_cases hlt : m < t.size
    · obtain ⟨c, hc⟩ : ∃ c : Int, c = ((t[m]'hlt).toNat : Int) := ⟨_, rfl⟩
      have hcd := HD.out m hlt
      have hXe := HX.out
      rw [drop_cons2 t m hlt] at hXe
      by_cases h48 : (t[m]'hlt) = 48
      · have HN : Hid (exactF point (t.data.toList.drop (m + 1)) (m + 1) q = R) := (exactF_zero h48).symm.trans hXe
        have hb : (((t[m]'hlt).toNat : Int) == 48) = true := by rw [h48]; rfl
        clear hXe hc c
        go_wp2
        go_roundg (t.size - (m + 1))
        case measure => rw [HG.out]; omega
        case rel => exact ⟨m + 1, q, rfl, by omega, rfl, by go_num, rfl, hq0, hq1, HN.out⟩
      · have hne : (t[m]'hlt).toNat ≠ 48 := by intro e; apply h48; exact UInt8.toNat.inj e
        have hb : (((t[m]'hlt).toNat : Int) == 48) = false := beq_eq_false_iff_ne.2 (by omega)
        have hc1 : 49 ≤ ((t[m]'hlt).toNat : Int) := by omega
        have hc2 : ((t[m]'hlt).toNat : Int) ≤ 57 := by omega
        by_cases hfar : point - m + 5 < 0 ∨ 15 < point - m + 5
        · have HN : Hid (R = none) := hXe.symm.trans (exactF_far h48 hfar)
          clear hXe hc c
          rcases hfar with hfar | hfar
          all_goals
            go_wp2
            go_ret2
            exact ⟨by rw [HN.out]; rfl, rfl⟩
        · obtain ⟨p, hp⟩ : ∃ p : Nat, (p : Int) = point - m + 5 := ⟨(point - m + 5).toNat, by omega⟩
          have hpt : (point - m + 5).toNat = p := by omega
          have hp15 : p ≤ 15 := by omega
          have HP : Hid (point - m + 5 = (p : Int)) := hp.symm
          have hnf : ¬ (point - (m : Int) + 5 < 0) := by omega
          have hnf2 : ¬ (15 < point - (m : Int) + 5) := by omega
          have hp1' : (p : Int) ≤ point - m + 5 := by omega
          have hp2' : point - m + 5 ≤ (p : Int) := by omega
          clear hc c hp
          go_wp2_with fail
          go_loopg [9, 10] p (fun g dd kk wx => w = wx ∧ ∃ (x : Nat) (dv : Int), x ≤ p ∧ g = p - x ∧ kk = .int .i64 x ∧ dd = .int .i64 dv ∧ dv = (((t[m]'hlt).toNat : Int) - 48) * 10 ^ x ∧ 0 ≤ dv)
          case atStart => exact ⟨rfl, 0, ((t[m]'hlt).toNat : Int) - 48, by omega, by omega, rfl, by first | rfl | go_num, by simp, by omega⟩
          case round =>
            obtain ⟨rfl, x, dv, hx, hg2, rfl, rfl, hdv, hdv0⟩ := hrel
            have hdb := mul_pow_bd (d := ((t[m]'hlt).toNat : Int) - 48) (p := x) (by omega) (by omega) (by omega)
            rw [← hdv] at hdb
            have HDV : Hid (dv = (((t[m]'hlt).toNat : Int) - 48) * 10 ^ x) := hdv
            have HG2 : Hid (gk = p - x) := hg2
            clear hdv hg2 hXe
            by_cases hxp : x < p
            · have hdb2 := mul_pow_bd (d := ((t[m]'hlt).toNat : Int) - 48) (p := x + 1) (by omega) (by omega) (by omega)
              rw [Int.pow_succ, ← Int.mul_assoc, ← HDV.out] at hdb2
              have HDV2 : Hid (dv * 10 = (((t[m]'hlt).toNat : Int) - 48) * 10 ^ (x + 1)) := by show _ = _; rw [Int.pow_succ, ← Int.mul_assoc, ← HDV.out]
              go_wp2
              go_roundg (p - (x + 1))
              case measure => rw [HG2.out]; omega
              case rel => exact ⟨rfl, x + 1, dv * 10, by omega, rfl, by go_num, rfl, HDV2.out, by omega⟩
            · have hxe : x = p := by omega
              subst hxe
              have hXe := HX.out
              rw [drop_cons2 t m hlt] at hXe
              by_cases hbig : 1000000000000000 < q + dv
              · have HN : Hid (R = none) := hXe.symm.trans (exactF_big h48 hfar (by rw [hpt, ← HDV.out]; exact hbig))
                clear hXe
                go_wp2
                go_ret2
                exact ⟨by rw [HN.out]; rfl, rfl⟩
              · have HN : Hid (exactF point (t.data.toList.drop (m + 1)) (m + 1) (q + dv) = R) := by
                  have := exactF_next (point := point) (cs := t.data.toList.drop (m + 1)) (i := m) (n := q) h48 hfar (by rw [hpt, ← HDV.out]; exact hbig)
                  rw [hpt, ← HDV.out] at this
                  exact this.symm.trans hXe
                clear hXe
                go_wp2
                go_roundg (t.size - (m + 1))
                case measure => rw [HG.out]; omega
                case rel => exact ⟨m + 1, q + dv, rfl, by omega, rfl, by go_num, rfl, by omega, by omega, HN.out⟩
    · have HN : Hid (R = some q) := by
        show _ = _
        rw [← HX.out, List.drop_eq_nil_of_le (by simp; omega)]; rfl
      go_wp2
      go_ret2
      exact ⟨by rw [HN.out]; rfl, rfl⟩

end Go.Proofs.YtjaoocincdoaaaaGreatDoor

namespace Go.Proofs.YtjaoocincdoaaaaGreatDoor
open Go.RowKit J

set_option linter.unusedVariables false

/-- The block of a value of the document's answer. -/
def vblk (kind n : Int) (s : ByteArray) (l ks : Value) (wt : Int) : Obj :=
  .cells #[.int .u8 kind, .int .i64 n, .string s, l, ks, .int .i64 wt] 122 (0, 0)

def nilSl : Value := .slice none 0 0

set_option maxHeartbeats 400000 in
theorem null_any (w : World) : Calls Tryz.prog 85 #[] w fun e w' => e = .returned (.pointer (some ⟨w.heap.size, 0, none⟩)) ∧ w' = w.alloc (vblk 122 0 ⟨#[]⟩ nilSl nilSl 1) := by
  go_enter Tryz.func85, Tryz.ntmps85
  go_wp2
  go_ret
  exact ⟨rfl, rfl⟩

set_option maxHeartbeats 400000 in
theorem truth_any (t : Bool) (w : World) : Calls Tryz.prog 86 #[.bool t] w fun e w' => e = .returned (.pointer (some ⟨w.heap.size, 0, none⟩)) ∧ w' = w.alloc (vblk (if t then 116 else 102) 0 ⟨#[]⟩ nilSl nilSl 1) := by
  cases t
  all_goals
    go_enter Tryz.func86, Tryz.ntmps86
    go_wp2
    go_ret
    exact ⟨rfl, rfl⟩

set_option maxHeartbeats 400000 in
theorem num_any (n : Int) (w : World) : Calls Tryz.prog 125 #[.int .i64 n] w fun e w' => e = .returned (.pointer (some ⟨w.heap.size, 0, none⟩)) ∧ w' = w.alloc (vblk 110 n ⟨#[]⟩ nilSl nilSl 1) := by
  go_enter Tryz.func125, Tryz.ntmps125
  go_wp2
  go_ret
  exact ⟨rfl, rfl⟩

set_option maxHeartbeats 400000 in
theorem str_any (s : ByteArray) (w : World) (hs : s.size ≤ 100000) : Calls Tryz.prog 82 #[.string s] w fun e w' => e = .returned (.pointer (some ⟨w.heap.size, 0, none⟩)) ∧ w' = w.alloc (vblk 115 0 s nilSl nilSl (1 + s.size)) := by
  go_enter Tryz.func82, Tryz.ntmps82
  go_wp2
  go_ret
  exact ⟨rfl, rfl⟩

/-- 'take' as a function of the state. -/
def takeR (s : ByteArray) (k : Nat) (bad c : Int) : Bool × Nat := if cv s k bad = c then (true, k + 1) else (false, k)

theorem take_ex (b : Nat) (s : ByteArray) (k : Nat) (d bad : Int) (lg : Bool) (c : Int) (w : World) (hb : w.heap[b]? = some (rblk s k d bad lg)) (hs : s.size ≤ 1000) (hc0 : 0 ≤ c) (hc1 : c ≤ 255) :
    Calls Tryz.prog 118 #[.pointer (some ⟨b, 0, none⟩), .int .u8 c] w fun e w' => ∃ t k', e = .returned (.bool t) ∧ But b w w' ∧ w'.heap[b]? = some (rblk s k' d bad lg) ∧ Hid (takeR s k bad c = (t, k')) := by
  by_cases h : cv s k bad = c
  · have := (cv_lt (show 0 ≤ cv s k bad by omega)).1
    refine (take_yes b s k d bad lg c w hb h hc0 (by omega)).mono ?_
    rintro e w' ⟨rfl, h1, h2⟩
    exact ⟨true, k + 1, rfl, h1, h2, by show _ = _; rw [takeR, if_pos h]⟩
  · refine (take_no b s k d bad lg c w hb h hc0 hc1).mono ?_
    rintro e w' ⟨rfl, h1, h2⟩
    exact ⟨false, k, rfl, h1, h2, by show _ = _; rw [takeR, if_neg h]⟩

theorem takeR_true {s : ByteArray} {k : Nat} {bad c : Int} {k' : Nat} (h : takeR s k bad c = (true, k')) : cv s k bad = c ∧ k' = k + 1 := by
  unfold takeR at h; split at h
  · simp only [Prod.mk.injEq] at h; exact ⟨by assumption, by omega⟩
  · simp at h
theorem takeR_false {s : ByteArray} {k : Nat} {bad c : Int} {k' : Nat} (h : takeR s k bad c = (false, k')) : cv s k bad ≠ c ∧ k' = k := by
  unfold takeR at h; split at h
  · simp at h
  · simp only [Prod.mk.injEq] at h; exact ⟨by assumption, by omega⟩

end Go.Proofs.YtjaoocincdoaaaaGreatDoor

namespace Go.Proofs.YtjaoocincdoaaaaGreatDoor
open Go.RowKit J

set_option linter.unusedVariables false

/-- Where the digits ahead of the point end. -/
def wholeE (s : ByteArray) (k : Nat) : Option Nat := if gb s k = 48 then some (k + 1) else if isDig (gb s k) then some (runE s k) else none

/-- Digits that must be there: they, the place behind, what is wrong. -/
def runX (s : ByteArray) (k : Nat) : ByteArray × Nat × Int := if isDig (gb s k) then (s.extract k (runE s k), runE s k, -1) else (⟨#[48]⟩, k, (k : Int))

/-- The digits behind the point, the place behind, what is wrong. -/
def partR (s : ByteArray) (k : Nat) : ByteArray × Nat × Int := if gb s k = 46 then runX s (k + 1) else (⟨#[]⟩, k, -1)

def powF : List UInt8 → Int → Int
  | [], p => p
  | c :: cs, p => powF cs (if p < 100000 then 10 * p + ((c.toNat : Int) - 48) else p)

/-- The power, the place behind, what is wrong. -/
def expR (s : ByteArray) (k : Nat) (bad : Int) : Int × Nat × Int :=
  if cv s k bad = 101 ∨ cv s k bad = 69 then
    let r := runX s (if gb s (k + 1) = 45 ∨ gb s (k + 1) = 43 then k + 2 else k + 1)
    ((if gb s (k + 1) = 45 then - powF r.1.data.toList 0 else powF r.1.data.toList 0), r.2.1, r.2.2)
  else (0, k, bad)

theorem run_no (b : Nat) (s : ByteArray) (k : Nat) (d : Int) (lg : Bool) (w : World) (hb : w.heap[b]? = some (rblk s k d (-1) lg)) (hs : s.size ≤ 1000) (hd : isDig (gb s k) = false) :
    Calls Tryz.prog 123 #[.pointer (some ⟨b, 0, none⟩)] w fun e w' => e = .returned (.string ⟨#[48]⟩) ∧ But b w w' ∧ w'.heap[b]? = some (rblk s k d k lg) := by
  have hdd : gb s k < 48 ∨ 57 < gb s k := by simp [isDig] at hd; omega
  obtain ⟨g0, g1, g2, g3, g4, hf⟩ := rcells hb
  have HB0 : Hid (w.heap[b]? = some (rblk s k d (-1) lg)) := hb
  clear hb g0 g2 g3 g4 hd hf
  go_enter Tryz.func123, Tryz.ntmps123
  go_wp2_with (go_at_call 149; refine (from_no b s k d lg _ _ _ (by exact HB0.out) hdd).mono ?_; rintro e w1 ⟨rfl, hbut1, hblk1⟩)
  have HB1 : Hid (w1.heap[b]? = some (rblk s k d k lg)) := hblk1
  obtain ⟨c0, c1, c2, c3, c4, hf2⟩ := rcells hblk1
  clear hblk1 c0 c1 c2 c4 hf2 g1
  refine wp_loop_rounds 1 ?_
  rw [rounds_succ]
  go_wp2_with (go_at_call 79; refine (c_any b s k d k lg _ (by exact HB1.out)).mono ?_; rintro e w' ⟨rfl, n, rfl⟩; rw [cv_dead s k (by omega)])
  go_ret
  exact ⟨rfl, hbut1.drewN _, HB1.out⟩

theorem runE_dig' {s : ByteArray} : ∀ (f k : Nat), ∀ i, k ≤ i → i < runF s f k → isDig (gb s i) = true
  | 0, k, i, h1, h2 => by simp [runF] at h2; omega
  | f + 1, k, i, h1, h2 => by
    simp only [runF] at h2; split at h2
    · rename_i hd
      by_cases e : i = k
      · rw [e]; exact hd
      · exact runE_dig' f (k + 1) i (by omega) h2
    · omega
theorem runE_all {s : ByteArray} {k i : Nat} (h1 : k ≤ i) (h2 : i < runE s k) : isDig (gb s i) = true := runE_dig' _ k i h1 h2

theorem ext_get {s : ByteArray} {a b i : Nat} (hb : b ≤ s.size) (h : i < (s.extract a b).size) : a + i < s.size ∧ ((s.extract a b)[i]'h).toNat = (gb s (a + i)).toNat := by
  have hsz : (s.extract a b).size = b - a := by simp [ByteArray.size_extract]; omega
  have hlt : a + i < s.size := by omega
  refine ⟨hlt, ?_⟩
  rw [gb_lt hlt]
  simp [ByteArray.getElem_extract]

theorem ext_digs {s : ByteArray} {k : Nat} (hk : k ≤ s.size) : ∀ i (h : i < (s.extract k (runE s k)).size), 48 ≤ ((s.extract k (runE s k))[i]'h).toNat ∧ ((s.extract k (runE s k))[i]'h).toNat ≤ 57 := by
  intro i h
  have hr := runE_size s k hk
  have hsz : (s.extract k (runE s k)).size = runE s k - k := by simp [ByteArray.size_extract]; omega
  have hg := (ext_get hr h).2
  have hd := runE_all (s := s) (k := k) (i := k + i) (by omega) (by omega)
  simp [isDig] at hd
  omega

theorem powF_bd : ∀ (l : List UInt8) (p : Int), 0 ≤ p → p ≤ 1000000 → (∀ c ∈ l, 48 ≤ c.toNat ∧ c.toNat ≤ 57) → 0 ≤ powF l p ∧ powF l p ≤ 1000000
  | [], p, h0, h1, _ => ⟨h0, h1⟩
  | c :: cs, p, h0, h1, hd => by
    have hc := hd c (by simp)
    simp only [powF]
    split
    · exact powF_bd cs _ (by omega) (by omega) (fun x hx => hd x (by simp [hx]))
    · exact powF_bd cs p h0 h1 (fun x hx => hd x (by simp [hx]))

def Digs (t : ByteArray) : Prop := ∀ i (h : i < t.size), 48 ≤ (t[i]'h).toNat ∧ (t[i]'h).toNat ≤ 57
theorem digs_nought : Digs ⟨#[48]⟩ := by
  intro i h
  have : i = 0 := by simp [ByteArray.size] at h; omega
  subst this
  exact ⟨by show 48 ≤ (48 : UInt8).toNat; decide, by show (48 : UInt8).toNat ≤ 57; decide⟩
theorem digs_none : Digs ⟨#[]⟩ := by intro i h; simp [ByteArray.size] at h

theorem Digs.mem {t : ByteArray} (h : Digs t) : ∀ c ∈ t.data.toList, 48 ≤ c.toNat ∧ c.toNat ≤ 57 := by
  intro c hc
  obtain ⟨i, hi, rfl⟩ := List.mem_iff_getElem.1 hc
  exact h i (by simpa using hi)
theorem Digs.append {t u : ByteArray} (h : Digs t) (k : Digs u) : Digs (t ++ u) := by
  intro i hi
  have hm : (t ++ u)[i] ∈ (t ++ u).data.toList := by
    rw [List.mem_iff_getElem]; exact ⟨i, by simpa using hi, rfl⟩
  rw [ByteArray.data_append, Array.toList_append, List.mem_append] at hm
  rcases hm with hm | hm
  · exact h.mem _ hm
  · exact k.mem _ hm

theorem runX_ok {s : ByteArray} {k : Nat} {l : ByteArray} {k' : Nat} {bad' : Int} (h : runX s k = (l, k', bad')) (hk : k ≤ s.size) : Digs l ∧ l.size ≤ s.size + 1 ∧ k ≤ k' ∧ k' ≤ s.size ∧ (bad' = -1 ∨ (bad' = k ∧ k' = k)) := by
  unfold runX at h
  have hr := runE_size s k hk
  have hl := runE_le s k
  split at h
  · simp only [Prod.mk.injEq] at h
    obtain ⟨rfl, rfl, rfl⟩ := h
    exact ⟨ext_digs hk, by simp [ByteArray.size_extract]; omega, hl, hr, Or.inl rfl⟩
  · simp only [Prod.mk.injEq] at h
    obtain ⟨rfl, rfl, rfl⟩ := h
    exact ⟨digs_nought, by show 1 ≤ s.size + 1; omega, Nat.le_refl _, hk, Or.inr ⟨rfl, rfl⟩⟩

theorem run_ex (b : Nat) (s : ByteArray) (k : Nat) (d : Int) (lg : Bool) (w : World) (hb : w.heap[b]? = some (rblk s k d (-1) lg)) (hs : s.size ≤ 1000) (hk : k ≤ s.size) :
    Calls Tryz.prog 123 #[.pointer (some ⟨b, 0, none⟩)] w fun e w' => ∃ l k' bad', e = .returned (.string l) ∧ But b w w' ∧ w'.heap[b]? = some (rblk s k' d bad' lg) ∧ Hid (runX s k = (l, k', bad')) ∧ Hid (Digs l) ∧ l.size ≤ 1001 ∧ k' ≤ s.size ∧ -1 ≤ bad' := by
  cases hd : isDig (gb s k)
  · refine (run_no b s k d lg w hb hs hd).mono ?_
    rintro e w' ⟨rfl, h1, h2⟩
    have hx : runX s k = (⟨#[48]⟩, k, (k : Int)) := by rw [runX, hd]; rfl
    have := runX_ok hx hk
    exact ⟨_, _, _, rfl, h1, h2, hx, this.1, by omega, by omega, by omega⟩
  · refine (run_good b s k d lg w hb hs hd).mono ?_
    rintro e w' ⟨rfl, h1, h2⟩
    have hx : runX s k = (s.extract k (runE s k), runE s k, -1) := by rw [runX, hd]; rfl
    have := runX_ok hx hk
    exact ⟨_, _, _, rfl, h1, h2, hx, this.1, by omega, by omega, by omega⟩

theorem ext_one {s : ByteArray} {k : Nat} (h : gb s k = 48) : s.extract k (k + 1) = ⟨#[48]⟩ := by
  have hk := lt_of_gb (s := s) (k := k) (by omega)
  have hsz : (s.extract k (k + 1)).size = 1 := by simp [ByteArray.size_extract]; omega
  have hg : ((s.extract k (k + 1))[0]'(by omega)).toNat = (gb s k).toNat := (ext_get (s := s) (a := k) (b := k + 1) (i := 0) (by omega) (by omega)).2
  rw [h] at hg
  apply ByteArray.ext
  apply Array.ext
  · exact hsz
  · intro i h1 h2
    have hi : i = 0 := by simp at h2; omega
    subst hi
    apply UInt8.toNat.inj
    exact hg

/-- 'number' as a function of the place: what it says (none: not even a digit; some none: it is no number), the place behind, what is wrong. -/
def numR (s : ByteArray) (k : Nat) : Option (Option Int) × Nat × Int :=
  match wholeE s (if gb s k = 45 then k + 1 else k) with
  | none => (none, (if gb s k = 45 then k + 1 else k), (((if gb s k = 45 then k + 1 else k) : Nat) : Int))
  | some k2 =>
    (some (exactR ((s.extract (if gb s k = 45 then k + 1 else k) k2).data.toList ++ (partR s k2).1.data.toList) (((k2 - (if gb s k = 45 then k + 1 else k) : Nat) : Int) + (expR s (partR s k2).2.1 (partR s k2).2.2).1)),
      (expR s (partR s k2).2.1 (partR s k2).2.2).2.1, (expR s (partR s k2).2.1 (partR s k2).2.2).2.2)

def numBlk (neg : Bool) : Option (Option Int) → Obj
  | none => vblk 122 0 ⟨#[]⟩ nilSl nilSl 1
  | some x => vblk 110 (if neg then -(x.getD 0) else x.getD 0) ⟨#[]⟩ nilSl nilSl 1
def numLg (lg : Bool) : Option (Option Int) → Bool
  | some none => true
  | _ => lg

theorem numR_none {s : ByteArray} {k k1 : Nat} (h1 : k1 = if gb s k = 45 then k + 1 else k) (h2 : wholeE s k1 = none) : numR s k = (none, k1, (k1 : Int)) := by
  simp only [numR, ← h1, h2]
theorem numR_some {s : ByteArray} {k k1 k2 : Nat} {pt : ByteArray} {k3 : Nat} {b3 p : Int} {k4 : Nat} {b4 : Int} (h1 : k1 = if gb s k = 45 then k + 1 else k) (h2 : wholeE s k1 = some k2) (h3 : partR s k2 = (pt, k3, b3)) (h4 : expR s k3 b3 = (p, k4, b4)) :
    numR s k = (some (exactR ((s.extract k1 k2).data.toList ++ pt.data.toList) (((k2 - k1 : Nat) : Int) + p)), k4, b4) := by
  simp only [numR, ← h1, h2, h3, h4]

theorem exactF_le (point : Int) : ∀ (l : List UInt8) (i : Nat) (q r : Int), 0 ≤ q → q ≤ 1000000000000000 → (∀ c ∈ l, 48 ≤ c.toNat ∧ c.toNat ≤ 57) → exactF point l i q = some r → 0 ≤ r ∧ r ≤ 1000000000000000
  | [], i, q, r, h0, h1, _, h => by simp [exactF] at h; omega
  | c :: cs, i, q, r, h0, h1, hd, h => by
    have hc := hd c (by simp)
    have hcs : ∀ x ∈ cs, 48 ≤ x.toNat ∧ x.toNat ≤ 57 := fun x hx => hd x (by simp [hx])
    simp only [exactF] at h
    split at h
    · exact exactF_le point cs _ q r h0 h1 hcs h
    · split at h
      · simp at h
      · split at h
        · simp at h
        · rename_i hn hb
          have := mul_pow_bd (d := (c.toNat : Int) - 48) (p := (point - i + 5).toNat) (by omega) (by omega) (by omega)
          exact exactF_le point cs _ _ r (by omega) (by omega) hcs h

end Go.Proofs.YtjaoocincdoaaaaGreatDoor

namespace Go.Proofs.YtjaoocincdoaaaaGreatDoor
open Go.RowKit J

set_option linter.unusedVariables false

theorem takeR_sign {s : ByteArray} {k : Nat} {t1 : Bool} {k1 : Nat} (h : takeR s k (-1) 45 = (t1, k1)) : k1 = (if gb s k = 45 then k + 1 else k) ∧ t1 = decide (gb s k = 45) := by
  cases t1
  · have := takeR_false h; rw [cv_good] at this; rw [if_neg this.1]; exact ⟨this.2, by simp [this.1]⟩
  · have := takeR_true h; rw [cv_good] at this; rw [if_pos this.1]; exact ⟨this.2, by simp [this.1]⟩

theorem heap_new {W : World} {n : Nat} {o : Obj} (h : W.heap.size = n) : (W.alloc o).heap[n]? = some o := by subst h; exact heap_alloc_new _ _
theorem heap_old {W : World} {b : Nat} {x o : Obj} (h : W.heap[b]? = some x) : (W.alloc o).heap[b]? = some x := by rw [Below.heap_alloc _ _ _ (lt_of_heap h)]; exact h

theorem take_le {s : ByteArray} {k : Nat} {c : Int} {t : Bool} {k' : Nat} (h : takeR s k (-1) c = (t, k')) (hk : k ≤ s.size) (hc : 0 ≤ c) : k' ≤ s.size := by
  cases t
  · have := takeR_false h; omega
  · have := takeR_true h; have := (cv_lt (s := s) (k := k) (bad := -1) (by omega)).1; omega

theorem exact_ex (t : ByteArray) (point : Int) (w : World) (ht : t.size ≤ 10000) (hp1 : -2000000 ≤ point) (hp2 : point ≤ 2000000) (hdig : Digs t) :
    Calls Tryz.prog 124 #[.string t, .int .i64 point] w fun e w' => ∃ q ok, e = .returned (.tuple #[.int .i64 q, .bool ok]) ∧ w = w' ∧ Hid (exactR t.data.toList point = if ok then some q else none) ∧ Hid (ok = false → q = 0) ∧ 0 ≤ q ∧ q ≤ 1000000000000000 := by
  refine (exact_any t point w ht hp1 hp2 hdig).mono ?_
  rintro e w' ⟨rfl, rfl⟩
  cases hx : exactR t.data.toList point with
  | none => exact ⟨0, false, rfl, rfl, rfl, fun _ => rfl, by omega, by omega⟩
  | some q =>
    have := exactF_le point _ 0 0 q (by omega) (by omega) hdig.mem hx
    exact ⟨q, true, rfl, rfl, rfl, fun h => by simp at h, this.1, this.2⟩

theorem num_fin {R : Option (Option Int) × Nat × Int} {s wh pt : ByteArray} {k1 k3 k6 : Nat} {p bad6 q : Int} {ok : Bool} (hR : R = (some (exactR ((s.extract k1 k3).data.toList ++ pt.data.toList) (((k3 - k1 : Nat) : Int) + p)), k6, bad6)) (hwh : wh = s.extract k1 k3) (hsz : wh.size = k3 - k1)
    (hx : exactR (wh ++ pt).data.toList ((wh.size : Int) + p) = if ok then some q else none) : R = (some (if ok then some q else none), k6, bad6) := by
  rw [hR, ← hx, ByteArray.data_append, Array.toList_append, hwh, ← hwh, hsz]

set_option maxRecDepth 100000 in
set_option maxHeartbeats 8000000 in
theorem number_any (b : Nat) (s : ByteArray) (k : Nat) (d : Int) (lg : Bool) (w : World) (hb : w.heap[b]? = some (rblk s k d (-1) lg)) (hs : s.size ≤ 1000) (hk : k ≤ s.size) :
    Calls Tryz.prog 83 #[.pointer (some ⟨b, 0, none⟩)] w fun e w' => ∃ m, e = .returned (.pointer (some ⟨m, 0, none⟩)) ∧ w.heap.size ≤ m ∧ But b w w' ∧ w'.heap[b]? = some (rblk s (numR s k).2.1 d (numR s k).2.2 (numLg lg (numR s k).1)) ∧ w'.heap[m]? = some (numBlk (decide (gb s k = 45)) (numR s k).1) := by
  have hbw := lt_of_heap hb
  obtain ⟨R, hR⟩ : ∃ R, R = numR s k := ⟨_, rfl⟩
  rw [← hR]
  have HR : Hid (numR s k = R) := hR.symm
  clear hR
  go_enter Tryz.func83, Tryz.ntmps83
  go_wp2_with fail
  refine (take_ex b s k d (-1) lg 45 w hb hs (by omega) (by omega)).mono ?_
  rintro e w1 ⟨t1, k1, rfl, hbut1, hblk1, ht1⟩
  have hsg := takeR_sign ht1.out
  have hk1 := take_le ht1.out hk (by omega)
  have HSG : Hid (k1 = (if gb s k = 45 then k + 1 else k)) := hsg.1
  have HT1 : Hid (t1 = decide (gb s k = 45)) := hsg.2
  clear hsg ht1 hb
  go_wp2_with fail
  refine (take_ex b s k1 d (-1) lg 48 w1 hblk1 hs (by omega) (by omega)).mono ?_
  rintro e w2 ⟨t2, k2, rfl, hbut2, hblk2, ht2⟩
  have hk2 := take_le ht2.out hk1 (by omega)
  have hbut12 : But b w w2 := hbut1.trans hbut2
  clear hbut1 hblk1 hbut2
  go_upto_if 19 with (fail)
  go_cut [4] (fun s4 wx => ∃ wh k3, s4 = .string wh ∧ But b w wx ∧ wx.heap[b]? = some (rblk s k3 d (-1) lg) ∧ Hid (wholeE s k1 = some k3) ∧ Hid (wh = s.extract k1 k3) ∧ Hid (Digs wh) ∧ k1 < k3 ∧ k3 ≤ s.size)
  case first =>
    cases t2
    · have h48 := takeR_false ht2.out
      rw [cv_good] at h48
      obtain ⟨h48, rfl⟩ := h48
      have HB2 : Hid (w2.heap[b]? = some (rblk s k2 d (-1) lg)) := hblk2
      obtain ⟨c, hc⟩ : ∃ c, c = gb s k2 := ⟨_, rfl⟩
      have hcb := gb_bd s k2
      rw [← hc] at hcb h48
      have HC : Hid (c = gb s k2) := hc
      clear hblk2 ht2 hc
      by_cases hd : 49 ≤ c ∧ c ≤ 57
      · obtain ⟨hd1, hd2⟩ := hd
        have hdig : isDig (gb s k2) = true := by rw [← HC.out]; simp [isDig]; omega
        have HDG : Hid (isDig (gb s k2) = true) := hdig
        clear hdig
        go_wp2_with (first
          | (go_at_call 79; refine (c_any b s k2 d (-1) lg _ (by exact HB2.out)).mono ?_; rintro e w' ⟨rfl, n, rfl⟩; rw [cv_good, ← HC.out])
          | (go_at_call 123; refine (run_good b s k2 d lg _ (by exact HB2.out) hs HDG.out).mono ?_; rintro e w3 ⟨rfl, hbut3, hblk3⟩))
        go_meet
        case rel =>
          refine ⟨_, _, rfl, (hbut12.drewN _).trans hbut3, hblk3, ?_, rfl, ext_digs hk1, ?_, runE_size s k2 hk1⟩
          · show _ = _; rw [wholeE, if_neg (by rw [← HC.out]; omega), HDG.out]; rfl
          · rw [runE_dig HDG.out]; have := runE_le s (k2 + 1); omega
      · have HF : Hid (R = (none, k2, (k2 : Int))) := by
          show _ = _
          rw [← HR.out]; refine numR_none HSG.out ?_
          rw [wholeE, if_neg (by rw [← HC.out]; omega), if_neg]; rw [← HC.out]; simp [isDig]; omega
        rcases (show c < 49 ∨ 57 < c from by omega) with hd | hd
        all_goals
          go_wp2_with (first
            | (go_at_call 79; refine (c_any b s k2 d (-1) lg _ (by exact HB2.out)).mono ?_; rintro e w' ⟨rfl, n, rfl⟩; rw [cv_good, ← HC.out])
            | (go_at_call 87; refine (fail_good b s k2 d lg _ (by exact HB2.out)).mono ?_; rintro e w3 ⟨rfl, hbut3, hblk3⟩)
            | (go_at_call 85; refine (null_any _).mono ?_; rintro e w4 ⟨rfl, rfl⟩))
          go_ret
          have hB := (hbut12.drewN _).trans hbut3
          refine ⟨_, rfl, hB.size, hB.alloc _, ?_, ?_⟩
          · rw [HF.out, Below.heap_alloc _ _ _ (lt_of_heap hblk3)]; exact hblk3
          · rw [HF.out]; exact heap_alloc_new _ _
    · have h48 := takeR_true ht2.out
      rw [cv_good] at h48
      obtain ⟨h48, rfl⟩ := h48
      have H48 : Hid (gb s k1 = 48) := h48
      have HB2 : Hid (w2.heap[b]? = some (rblk s (k1 + 1) d (-1) lg)) := hblk2
      clear h48 ht2 hblk2
      go_wp2_with fail
      go_meet
      case rel => exact ⟨_, k1 + 1, rfl, hbut12, HB2.out, (by show _ = _; rw [wholeE, if_pos H48.out]), (ext_one H48.out).symm, digs_nought, by omega, hk2⟩
  case rest =>
    obtain ⟨wh, k3, rfl, hbut3, hblk3, hwe, hwh, hwd, hk13, hk3⟩ := hcut
    clear hblk2 ht2 hbut12 hk2
    have hwsz : wh.size = k3 - k1 := by rw [hwh.out]; simp [ByteArray.size_extract]; omega
    have hwb : wh.size ≤ 1000 := by omega
    have HWS : Hid (wh.size = k3 - k1) := hwsz
    clear hwsz
    go_wp2_with fail
    refine (take_ex b s k3 d (-1) lg 46 wc hblk3 hs (by omega) (by omega)).mono ?_
    rintro e w4 ⟨t4, k4, rfl, hbut4, hblk4, ht4⟩
    have hk4 := take_le ht4.out hk3 (by omega)
    have hbutA : But b w w4 := hbut3.trans hbut4
    clear hbut3 hblk3 hbut4
    go_upto_if 35 with (fail)
    go_cut [5] (fun s5 wx => ∃ pt k5 bad5, s5 = .string pt ∧ But b w wx ∧ wx.heap[b]? = some (rblk s k5 d bad5 lg) ∧ Hid (partR s k3 = (pt, k5, bad5)) ∧ Hid (Digs pt) ∧ pt.size ≤ 1001 ∧ k5 ≤ s.size ∧ -1 ≤ bad5)
    case first =>
      have HB4 : Hid (w4.heap[b]? = some (rblk s k4 d (-1) lg)) := hblk4
      clear hblk4
      cases t4
      · have h46 := takeR_false ht4.out
        rw [cv_good] at h46
        obtain ⟨h46, rfl⟩ := h46
        have H46 : Hid (gb s k4 ≠ 46) := h46
        clear h46 ht4
        go_wp2_with fail
        go_meet
        case rel => exact ⟨_, k4, -1, rfl, hbutA, HB4.out, (by show _ = _; rw [partR, if_neg H46.out]), digs_none, by decide, hk4, by omega⟩
      · have h46 := takeR_true ht4.out
        rw [cv_good] at h46
        obtain ⟨h46, rfl⟩ := h46
        have H46 : Hid (gb s k3 = 46) := h46
        clear h46 ht4
        go_wp2_with (go_at_call 123; refine (run_ex b s (k3 + 1) d lg _ (by exact HB4.out) hs hk4).mono ?_; rintro e w5 ⟨l, k5, bad5, rfl, hbut5, hblk5, hr5, hd5, hl5, hk5, hbad5⟩)
        go_meet
        case rel => exact ⟨l, k5, bad5, rfl, hbutA.trans hbut5, hblk5, (by show _ = _; rw [partR, if_pos H46.out]; exact hr5.out), hd5, hl5, hk5, hbad5⟩
    case rest =>
      obtain ⟨pt, k5, bad5, rfl, hbut5, hblk5, hpr, hpd, hpl, hk5, hbad5⟩ := hcut
      clear hblk4 ht4 hbutA hk4
      have HB5 : Hid (wc.heap[b]? = some (rblk s k5 d bad5 lg)) := hblk5
      obtain ⟨g0, g1, g2, g3, g4, hf⟩ := rcells hblk5
      clear hblk5 g0 g2 g3
      obtain ⟨c, hc⟩ : ∃ c, c = cv s k5 bad5 := ⟨_, rfl⟩
      have hcb := cv_bd s k5 bad5
      rw [← hc] at hcb
      have HC : Hid (c = cv s k5 bad5) := hc
      clear hc
      have cut : ∀ (p : Int) (k6 : Nat) (bad6 : Int), expR s k5 bad5 = (p, k6, bad6) → R = (some (exactR ((s.extract k1 k3).data.toList ++ pt.data.toList) (((k3 - k1 : Nat) : Int) + p)), k6, bad6) := fun p k6 bad6 h => HR.out.symm.trans (numR_some HSG.out hwe.out hpr.out h)
      have HCUT : Hid (∀ (p : Int) (k6 : Nat) (bad6 : Int), expR s k5 bad5 = (p, k6, bad6) → R = (some (exactR ((s.extract k1 k3).data.toList ++ pt.data.toList) (((k3 - k1 : Nat) : Int) + p)), k6, bad6)) := cut
      clear cut HR hwe hpr HSG
      rcases (show c = 101 ∨ c = 69 ∨ (c ≠ 101 ∧ c ≠ 69) from by omega) with rfl | rfl | hn
      case inr.inr =>
        have e1 : (c == 101) = false := beq_eq_false_iff_ne.2 hn.1
        have e2 : (c == 69) = false := beq_eq_false_iff_ne.2 hn.2
        have HF := HCUT.out 0 k5 bad5 (by rw [expR, if_neg (by rw [← HC.out]; omega)])
        have HF2 : Hid (R = (some (exactR ((s.extract k1 k3).data.toList ++ pt.data.toList) (((k3 - k1 : Nat) : Int) + 0)), k5, bad5)) := HF
        clear hn HCUT HF
        go_wp2_with (go_at_call 79; refine (c_any b s k5 d bad5 lg _ (by exact HB5.out)).mono ?_; rintro e w' ⟨rfl, n, rfl⟩; rw [← HC.out])
        refine (exact_ex (wh ++ pt) _ _ (by rw [ByteArray.size_append]; omega) (by omega) (by omega) (hwd.out.append hpd.out)).mono ?_
        rintro e w6 ⟨q, ok, rfl, rfl, hx, hq, hq0, hq1⟩
        have HF3 : Hid (R = (some (if ok then some q else none), k5, bad5)) := num_fin HF2.out hwh.out HWS.out (by rw [Int.add_zero]; exact hx.out)
        clear HF2 hx
        cases ok
        · have hq' : q = 0 := hq.out rfl
          subst hq'
          cases t1
          all_goals
            go_wp2_with (go_at_call 125; refine (num_any _ _).mono ?_; rintro e w7 ⟨rfl, rfl⟩)
            go_ret
            have hblkF : ∀ n, ((wc.drewN n).setCell ⟨b, 4, none⟩ (.bool true)).heap[b]? = some (rblk s k5 d bad5 true) := fun n => rset_large (w := wc.drewN n) HB5.out true
            refine ⟨_, rfl, ?_, ((hbut5.drewN _).setCell _ _).alloc _, ?_, ?_⟩
            · exact hbut5.size
            · rw [HF3.out]; exact heap_old (hblkF _)
            · rw [HF3.out, ← HT1.out]; exact heap_new (by simp [World.setCell, World.drewN])
        · cases t1
          all_goals
            go_wp2_with (go_at_call 125; refine (num_any _ _).mono ?_; rintro e w7 ⟨rfl, rfl⟩)
            go_ret
            refine ⟨_, rfl, ?_, (hbut5.drewN _).alloc _, ?_, ?_⟩
            · exact hbut5.size
            · rw [HF3.out]; exact heap_old (W := wc.drewN _) HB5.out
            · rw [HF3.out, ← HT1.out]; exact heap_new (by simp [World.drewN])
      all_goals
        have hg5 := cv_lt (s := s) (k := k5) (bad := bad5) (by rw [← HC.out]; omega)
        obtain ⟨hk5', hb5'⟩ := hg5
        have hb5e : bad5 = -1 := by omega
        subst hb5e
        have HE : Hid (cv s k5 (-1) = 101 ∨ cv s k5 (-1) = 69) := by show _ ∨ _; rw [← HC.out]; omega
        clear hb5' hbad5 hcb
        go_wp2_with (first
          | (go_at_call 79; refine (c_any b s k5 d (-1) lg _ (by exact HB5.out)).mono ?_; rintro e w' ⟨rfl, n, rfl⟩; rw [← HC.out])
          | (go_at_call 118; refine (take_ex b s (k5 + 1) d (-1) lg 45 _ (by exact rset_at (w := wc.drewN _) HB5.out (k5 + 1) (by omega)) hs (by omega) (by omega)).mono ?_; rintro e w6 ⟨t6, k6, rfl, hbut6, hblk6, ht6⟩; fail))
        refine (take_ex b s (k5 + 1) d (-1) lg 45 _ (by exact rset_at (w := wc.drewN _) HB5.out (k5 + 1) (by omega)) hs (by omega) (by omega)).mono ?_
        rintro e w6 ⟨t6, k6, rfl, hbut6, hblk6, ht6⟩
        have hbutB : But b w w6 := ((hbut5.drewN _).setCell _ _).trans hbut6
        have hk6 := take_le ht6.out (by omega) (by omega)
        clear hbut6 g1 g4 hf
        go_upto_if 56 with (fail)
        go_cut [] (fun wx => ∃ k7, But b w wx ∧ wx.heap[b]? = some (rblk s k7 d (-1) lg) ∧ Hid (k7 = (if gb s (k5 + 1) = 45 ∨ gb s (k5 + 1) = 43 then k5 + 2 else k5 + 1) ∧ t6 = decide (gb s (k5 + 1) = 45)) ∧ k7 ≤ s.size)
        case first =>
          cases t6
          · have h45 := takeR_false ht6.out
            rw [cv_good] at h45
            obtain ⟨h45, rfl⟩ := h45
            have H45 : Hid (gb s (k5 + 1) ≠ 45) := h45
            clear h45 ht6
            go_wp2_with (go_at_call 118; refine (take_ex b s (k5 + 1) d (-1) lg 43 _ (by exact hblk6) hs (by omega) (by omega)).mono ?_; rintro e w7 ⟨t7, k7, rfl, hbut7, hblk7, ht7⟩)
            have hk7 := take_le ht7.out hk6 (by omega)
            go_meet
            case rel =>
              refine ⟨k7, hbutB.trans hbut7, hblk7, ?_, hk7⟩
              cases t7
              · have h43 := takeR_false ht7.out
                rw [cv_good] at h43
                have := H45.out
                exact ⟨by rw [if_neg (by omega)]; exact h43.2, by simp [this]⟩
              · have h43 := takeR_true ht7.out
                rw [cv_good] at h43
                have := H45.out
                exact ⟨by rw [if_pos (by omega)]; omega, by simp [this]⟩
          · have h45 := takeR_true ht6.out
            rw [cv_good] at h45
            obtain ⟨h45, rfl⟩ := h45
            have H45 : Hid (gb s (k5 + 1) = 45) := h45
            clear h45 ht6
            go_wp2_with fail
            go_meet
            case rel => exact ⟨k5 + 1 + 1, hbutB, hblk6, ⟨by rw [if_pos (Or.inl H45.out)], by simp [H45.out]⟩, hk6⟩
        case rest =>
          obtain ⟨k7, hbut7, hblk7, hk7e, hk7⟩ := hcut
          clear hblk6 ht6 hbutB hk6
          go_wp2_with (go_at_call 123; refine (run_ex b s k7 d lg _ (by exact hblk7) hs hk7).mono ?_; rintro e w8 ⟨l, k8, bad8, rfl, hbut8, hblk8, hr8, hd8, hl8, hk8, hbad8⟩)
          have hbut9 : But b w w8 := hbut7.trans hbut8
          obtain ⟨g0, g1, g2, g3, g4, hf⟩ := rcells hblk8
          have HB8 : Hid (w8.heap[b]? = some (rblk s k8 d bad8 lg)) := hblk8
          have HX : Hid (expR s k5 (-1) = ((if t6 then - powF l.data.toList 0 else powF l.data.toList 0), k8, bad8)) := by
            show _ = _
            rw [expR, if_pos HE.out, ← hk7e.out.1, hr8.out, hk7e.out.2]; simp
          have hpb := powF_bd l.data.toList 0 (by omega) (by omega) hd8.out.mem
          obtain ⟨P, hP⟩ : ∃ P, P = powF l.data.toList 0 := ⟨_, rfl⟩
          rw [← hP] at hpb
          have HP : Hid (powF l.data.toList 0 = P) := hP.symm
          clear hblk7 hblk8 g0 g1 g2 g3 hP hbut7 hbut8 hr8 HE
          go_loopg [6, 11] l.size (fun g pw i wx => w8 = wx ∧ ∃ (x : Nat) (pv : Int), x ≤ l.size ∧ g = l.size - x ∧ i = .int .i64 x ∧ pw = .int .i64 pv ∧ 0 ≤ pv ∧ pv ≤ 1000000 ∧ powF (l.data.toList.drop x) pv = P)
          case atStart => exact ⟨rfl, 0, 0, by omega, by omega, rfl, rfl, by omega, by omega, by simpa using HP.out⟩
          case round =>
            obtain ⟨rfl, x, pv, hx, hg, rfl, rfl, hpv0, hpv1, hpf⟩ := hrel
            have HG : Hid (gk = l.size - x) := hg
            have HPF : Hid (powF (l.data.toList.drop x) pv = P) := hpf
            clear hg hpf
            by_cases hxl : x < l.size
            · have hdg := hd8.out x hxl
              have hpf := HPF.out
              rw [drop_cons2 l x hxl, powF] at hpf
              have hc1 : 48 ≤ ((l[x]'hxl).toNat : Int) := by omega
              have hc2 : ((l[x]'hxl).toNat : Int) ≤ 57 := by omega
              by_cases hpv : pv < 100000
              · rw [if_pos hpv] at hpf
                have HN : Hid (powF (l.data.toList.drop (x + 1)) (10 * pv + (((l[x]'hxl).toNat : Int) - 48)) = P) := hpf
                clear hpf hdg
                go_wp2
                go_roundg (l.size - (x + 1))
                case measure => rw [HG.out]; omega
                case rel => exact ⟨rfl, x + 1, _, by omega, rfl, by go_num, rfl, by omega, by omega, HN.out⟩
              · rw [if_neg hpv] at hpf
                have HN : Hid (powF (l.data.toList.drop (x + 1)) pv = P) := hpf
                clear hpf hdg
                go_wp2
                go_roundg (l.size - (x + 1))
                case measure => rw [HG.out]; omega
                case rel => exact ⟨rfl, x + 1, pv, by omega, rfl, by go_num, rfl, by omega, by omega, HN.out⟩
            · have hpe : pv = P := by
                have := HPF.out
                rw [List.drop_eq_nil_of_le (by simp; omega), powF] at this
                exact this
              subst hpe
              clear HPF HG
              cases t6
              all_goals
                have HF2 := HCUT.out _ k8 bad8 HX.out
                rw [HP.out] at HF2
                have HF3 : Hid (R = _) := HF2
                clear HF2 HCUT HX
                go_wp2_with fail
                refine (exact_ex (wh ++ pt) _ _ (by rw [ByteArray.size_append]; omega) (by omega) (by omega) (hwd.out.append hpd.out)).mono ?_
                rintro e w9 ⟨q, ok, rfl, rfl, hx, hq, hq0, hq1⟩
                have HF4 : Hid (R = (some (if ok then some q else none), k8, bad8)) := num_fin HF3.out hwh.out HWS.out hx.out
                clear HF3 hx
                cases ok
                · have hq' : q = 0 := hq.out rfl
                  subst hq'
                  cases t1
                  all_goals
                    go_wp2_with (go_at_call 125; refine (num_any _ _).mono ?_; rintro e w7 ⟨rfl, rfl⟩)
                    go_ret
                    refine ⟨_, rfl, ?_, (hbut9.setCell _ _).alloc _, ?_, ?_⟩
                    · exact hbut9.size
                    · rw [HF4.out]; exact heap_old (rset_large HB8.out true)
                    · rw [HF4.out, ← HT1.out]; exact heap_new (by simp [World.setCell])
                · cases t1
                  all_goals
                    go_wp2_with (go_at_call 125; refine (num_any _ _).mono ?_; rintro e w7 ⟨rfl, rfl⟩)
                    go_ret
                    refine ⟨_, rfl, ?_, hbut9.alloc _, ?_, ?_⟩
                    · exact hbut9.size
                    · rw [HF4.out]; exact heap_old HB8.out
                    · rw [HF4.out, ← HT1.out]; exact heap_new rfl

end Go.Proofs.YtjaoocincdoaaaaGreatDoor

namespace Go.Proofs.YtjaoocincdoaaaaGreatDoor
open Go.RowKit J

set_option linter.unusedVariables false

/-- Only blocks of S may have turned; blocks may have come. -/
structure Chg (S : Nat → Prop) (w w' : World) : Prop where
  os : w'.os = w.os
  tape : w'.tape = w.tape
  output : w'.output = w.output
  size : w.heap.size ≤ w'.heap.size
  block : ∀ k, k < w.heap.size → ¬ S k → w'.heap[k]? = w.heap[k]?

theorem Chg.refl (S : Nat → Prop) (w : World) : Chg S w w := ⟨rfl, rfl, rfl, Nat.le_refl _, fun _ _ _ => rfl⟩
theorem Chg.trans {S : Nat → Prop} {x y z : World} (h : Chg S x y) (k : Chg S y z) : Chg S x z :=
  ⟨k.os.trans h.os, k.tape.trans h.tape, k.output.trans h.output, Nat.le_trans h.size k.size, fun i hi hn => (k.block i (Nat.lt_of_lt_of_le hi h.size) hn).trans (h.block i hi hn)⟩
theorem Chg.mono {S T : Nat → Prop} {x y : World} (h : Chg S x y) (k : ∀ i, i < x.heap.size → S i → T i) : Chg T x y := ⟨h.os, h.tape, h.output, h.size, fun i hi hn => h.block i hi (fun hs => hn (k i hi hs))⟩
theorem Chg.of_but {b : Nat} {x y : World} (h : But b x y) : Chg (fun k => k = b) x y := ⟨h.os, h.tape, h.output, h.size, fun i hi hn => h.block i hi (by intro e; apply hn; injection e)⟩
theorem Chg.but {b : Nat} {x y : World} (h : Chg (fun k => k = b) x y) : But b x y := ⟨h.os, h.tape, h.output, h.size, fun i hi hn => h.block i hi (by intro e; apply hn; rw [e])⟩
theorem Chg.of_grown {x y : World} {row : Option Nat} (h : x.grownBy y row) : Chg (fun k => row = some k) x y := ⟨h.os, h.tape, h.output, h.size, fun i hi hn => h.block i hi (by intro e; exact hn e.symm)⟩
theorem Chg.alloc {S : Nat → Prop} {x y : World} (h : Chg S x y) (o : Obj) : Chg S x (y.alloc o) := h.trans ⟨rfl, rfl, rfl, by simp, fun k hk _ => Below.heap_alloc _ _ _ hk⟩
theorem Chg.setCell {S : Nat → Prop} {x y : World} (h : Chg S x y) {b : Nat} (hb : S b) (o : Nat) (v : Value) : Chg S x (y.setCell ⟨b, o, none⟩ v) :=
  h.trans ⟨rfl, rfl, rfl, by simp [World.setCell], fun k _ hn => Below.heap_setCell _ _ _ _ (by intro e; apply hn; rw [e]; exact hb)⟩
theorem Chg.drew {S : Nat → Prop} {x y : World} (h : Chg S x y) : Chg S x y.drew := ⟨h.os, h.tape, h.output, h.size, h.block⟩
theorem Chg.drewN {S : Nat → Prop} {x y : World} (h : Chg S x y) (n : Nat) : Chg S x (y.drewN n) := ⟨h.os, h.tape, h.output, h.size, h.block⟩

theorem vcells {w : World} {b : Nat} {kind n : Int} {s : ByteArray} {l ks : Value} {wt : Int} (h : w.heap[b]? = some (vblk kind n s l ks wt)) :
    w.cell? ⟨b, 0, none⟩ = some (.int .u8 kind) ∧ w.cell? ⟨b, 1, none⟩ = some (.int .i64 n) ∧ w.cell? ⟨b, 2, none⟩ = some (.string s) ∧ w.cell? ⟨b, 3, none⟩ = some l ∧
    w.cell? ⟨b, 4, none⟩ = some ks ∧ w.cell? ⟨b, 5, none⟩ = some (.int .i64 wt) ∧ ∀ o, w.frozen? ⟨b, o, none⟩ = false := by
  refine ⟨?_, ?_, ?_, ?_, ?_, ?_, fun o => ?_⟩ <;> simp [World.cell?, World.frozen?, h, vblk]

theorem vset_l {w : World} {b : Nat} {kind n : Int} {s : ByteArray} {l ks : Value} {wt : Int} (h : w.heap[b]? = some (vblk kind n s l ks wt)) (l' : Value) :
    (w.setCell ⟨b, 3, none⟩ l').heap[b]? = some (vblk kind n s l' ks wt) := heap_setCell_at h _
theorem vset_k {w : World} {b : Nat} {kind n : Int} {s : ByteArray} {l ks : Value} {wt : Int} (h : w.heap[b]? = some (vblk kind n s l ks wt)) (k' : Value) :
    (w.setCell ⟨b, 4, none⟩ k').heap[b]? = some (vblk kind n s l k' wt) := heap_setCell_at h _
theorem vset_w {w : World} {b : Nat} {kind n : Int} {s : ByteArray} {l ks : Value} {wt : Int} (h : w.heap[b]? = some (vblk kind n s l ks wt)) (wt' : Int) :
    (w.setCell ⟨b, 5, none⟩ (.int .i64 wt')).heap[b]? = some (vblk kind n s l ks wt') := heap_setCell_at h _
theorem vset_kind {w : World} {b : Nat} {kind n : Int} {s : ByteArray} {l ks : Value} {wt : Int} (h : w.heap[b]? = some (vblk kind n s l ks wt)) (kind' : Int) :
    (w.setCell ⟨b, 0, none⟩ (.int .u8 kind')).heap[b]? = some (vblk kind' n s l ks wt) := heap_setCell_at h _
theorem heap_set_other {w : World} {b c o : Nat} {x : Obj} (h : w.heap[b]? = some x) (hne : b ≠ c) (v : Value) : (w.setCell ⟨c, o, none⟩ v).heap[b]? = some x := by
  rw [Below.heap_setCell _ _ _ _ (by simpa using hne)]; exact h

theorem info_ptr : (Tryz.prog.info? 46).map (fun i => (i.zero, i.size, i.bytes)) = some (some (.pointer none), 1, 8) := by kernel_rfl
theorem info_str : (Tryz.prog.info? 9).map (fun i => (i.zero, i.size, i.bytes)) = some (some (.string ⟨#[]⟩), 1, 16) := by kernel_rfl

/-- A row of cells of one cell each, wherever it lies. -/
def Row (w : World) (e : TypeId) (v : Value) (xs : List Value) : Prop := w.ownsRow 0 e 1 v xs.length xs

theorem Row.kept {w w' : World} {e : TypeId} {v : Value} {xs : List Value} {S : Nat → Prop} (h : Row w e v xs) (hc : Chg S w w') (hn : ∀ k, v.ownBlock = some k → ¬ S k) : Row w' e v xs := by
  refine ⟨h.1, ?_⟩
  rcases h.2 with h2 | ⟨g, cap, cur, rfl, h0, hg, r⟩
  · exact .inl h2
  · exact .inr ⟨g, cap, cur, rfl, h0, by rw [hc.block g (lt_of_heap hg) (hn g rfl)]; exact hg, r⟩
theorem Row.lt {w : World} {e : TypeId} {v : Value} {xs : List Value} (h : Row w e v xs) {k : Nat} (hk : v.ownBlock = some k) : k < w.heap.size := (World.ownsRow.lt h k hk).2
theorem Row.nil (w : World) (e : TypeId) : Row w e nilSl [] := World.ownsRow_nil _ _ _ _

/-- append(xs, x): one thing of one cell. -/
theorem app_one {w : World} {ops : Array Oper} {rest : List Oper} {o : Oper} {a : Act} {Q : Exit → Act → World → Prop} (hgd : o.guard = none) (s x : Operand) (t e : TypeId)
    (ho : o.op = .call { callee := .builtin .append, args := #[s, x], argTypes := #[t, t] }) (z : Value) (bytes : Nat) (hinfo : (Tryz.prog.info? e).map (fun i => (i.zero, i.size, i.bytes)) = some (some z, 1, bytes)) (hz : z.cells.size = 1)
    (ht : Tryz.prog.underlying t = some (.slice e)) (hby : bytes ≤ 64) (v : Value) (xs : List Value) (hs : a.eval s = v) (hown : Row w e v xs) (ad : Addr) (c : Nat) (nv : Value) (hx : a.eval x = .slice (some ad) 1 c)
    (hnv : w.cell? (ad.add 0) = some nv) (h1 : nv.oneCell' = true) (hl : xs.length ≤ 1000000) (H : Nat) (hH : w.heap.size = H)
    (h : ∀ g cap w', Row w' e (.slice (some ⟨g, 0, none⟩) (xs.length + 1) cap) (xs ++ [nv]) → w.grownBy w' v.ownBlock → (v.ownBlock = some g ∨ g = H) → g < w'.heap.size → wpList Tryz.prog ops Q rest (a.put o.dst (.slice (some ⟨g, 0, none⟩) (xs.length + 1) cap)) w') : wpList Tryz.prog ops Q (o :: rest) a w := by
  obtain ⟨i0, hi, hz0, hz1, hz2⟩ := info_parts hinfo
  have hb : (xs.length + 1) * bytes ≤ 140737488355328 := Nat.le_trans (Nat.mul_le_mul (show xs.length + 1 ≤ 1000001 by omega) hby) (by omega)
  refine wpList_append_lies _ hgd s x t ho 0 e i0 z 1 bytes ht hi hz0 hz1 hz2 hz (by decide) v xs.length xs hs hown ad 1 c [nv] hx (by simp) ?_ ?_ (by omega) (by unfold maxLen; omega) hb (Nat.zero_le _) H hH ?_
  · intro j u hj
    match j, hj with
    | 0, hj => simp at hj; subst hj; exact hnv
  · intro u hu; simp at hu; subst hu; exact h1
  · intro g cap w' r1 r2 r3 r4
    refine h g cap w' ?_ r2 r3 r4
    unfold Row
    rw [List.length_append]
    exact r1

theorem cell_new {W : World} {n : Nat} {x : Value} {t : TypeId} (h : W.heap.size = n) : (W.alloc (.cells #[x] t)).cell? ((⟨n, 0, none⟩ : Addr).add 0) = some x := by
  subst h; exact cell_one_new W x t 0 x (by simp)

set_option maxHeartbeats 1000000 in
theorem add_any (mb m2 : Nat) (kind n : Int) (s : ByteArray) (l ks : Value) (wt : Int) (kind2 n2 : Int) (s2 : ByteArray) (l2 ks2 : Value) (wt2 : Int) (ps : List Value) (w : World)
    (hb : w.heap[mb]? = some (vblk kind n s l ks wt)) (hx : w.heap[m2]? = some (vblk kind2 n2 s2 l2 ks2 wt2)) (hne : m2 ≠ mb) (hrow : Row w 46 l ps) (hr : ∀ g, l.ownBlock = some g → g ≠ mb ∧ g ≠ m2) (hps : ps.length ≤ 2000) :
    Calls Tryz.prog 119 #[.pointer (some ⟨mb, 0, none⟩), .pointer (some ⟨m2, 0, none⟩)] w fun e w' => e = .returned (.tuple #[]) ∧ ∃ l' wt', w'.heap[mb]? = some (vblk kind n s l' ks wt') ∧ Row w' 46 l' (ps ++ [.pointer (some ⟨m2, 0, none⟩)]) ∧
      (∀ g, l'.ownBlock = some g → l.ownBlock = some g ∨ w.heap.size ≤ g) ∧ Chg (fun k => k = mb ∨ l.ownBlock = some k) w w' := by
  obtain ⟨g0, g1, g2, g3, g4, g5, hf⟩ := vcells hb
  obtain ⟨q0, q1, q2, q3, q4, q5, qf⟩ := vcells hx
  have HB : Hid (w.heap[mb]? = some (vblk kind n s l ks wt)) := hb
  have HX : Hid (w.heap[m2]? = some (vblk kind2 n2 s2 l2 ks2 wt2)) := hx
  have HR : Hid (∀ g, l.ownBlock = some g → g ≠ mb ∧ g ≠ m2) := hr
  have hmb := lt_of_heap hb
  have hm2 := lt_of_heap hx
  clear hb hx hr g0 g1 g2 g4 q0 q1 q2 q3 q4 qf
  go_enter Tryz.func119, Tryz.ntmps119
  go_wp2_with (at_builtin; refine app_one rfl (.tmp 8) (.tmp 10) 119 46 rfl (.pointer none) 8 info_ptr rfl Tryz.underlying119 (by decide) l ps rfl ?h1 _ _ (.pointer (some ⟨m2, 0, none⟩)) rfl ?h2 rfl ?h3 _ rfl ?_)
  case h1 => exact World.ownsRow.alloc hrow _
  case h2 => exact cell_new rfl
  case h3 => omega
  intro g cap w2 hrow2 hgr hat hlt
  have hmb2 : w2.heap[mb]? = some (vblk kind n s l ks wt) := by
    rw [hgr.block mb (by simp; omega) (by intro e; exact (HR.out mb e.symm).1 rfl)]; exact heap_old HB.out
  have hm22 : w2.heap[m2]? = some (vblk kind2 n2 s2 l2 ks2 wt2) := by
    rw [hgr.block m2 (by simp; omega) (by intro e; exact (HR.out m2 e.symm).2 rfl)]; exact heap_old HX.out
  have hchg2 : Chg (fun k => k = mb ∨ l.ownBlock = some k) w w2 := ((Chg.refl _ w).alloc _).trans ((Chg.of_grown hgr).mono (fun i _ h => Or.inr h))
  obtain ⟨a0, a1, a2, a3, a4, a5, af⟩ := vcells hmb2
  obtain ⟨b0, b1, b2, b3, b4, b5, bf⟩ := vcells hm22
  have HM : Hid (w2.heap[mb]? = some (vblk kind n s l ks wt)) := hmb2
  have HRW : Hid (Row w2 46 (.slice (some ⟨g, 0, none⟩) (ps.length + 1) cap) (ps ++ [.pointer (some ⟨m2, 0, none⟩)])) := hrow2
  have HAT : Hid (l.ownBlock = some g ∨ g = w.heap.size + 1) := hat
  have HC : Hid (Chg (fun k => k = mb ∨ l.ownBlock = some k) w w2) := hchg2
  clear hgr hat hmb2 hm22 hchg2 g3 g5 hf q5 a0 a1 a2 a4 b0 b1 b2 b3 b4 bf hrow2 hrow
  go_wp2
  go_region
  all_goals
    go_wp2
    go_end0
    have hgm : g ≠ mb := by
      rcases HAT.out with h | h
      · exact (HR.out g h).1
      · omega
    have hc := ((HC.out.setCell (b := mb) (Or.inl rfl) 3 (.slice (some ⟨g, 0, none⟩) (ps.length + 1) cap)).setCell (b := mb) (Or.inl rfl) 5 (.int .i64 (wrap64 (wt + wt2)))).drew
    refine ⟨rfl, .slice (some ⟨g, 0, none⟩) (ps.length + 1) cap, wrap64 (wt + wt2), vset_w (vset_l HM.out _) _, ?_, ?_, hc⟩
    · refine Row.kept (S := fun k => k = mb) HRW.out ?_ ?_
      · exact (((Chg.refl (fun k => k = mb) w2).setCell (b := mb) rfl _ _).setCell (b := mb) rfl _ _).drew
      · intro k hk; simp [Value.ownBlock] at hk; omega
    · intro k hk
      simp [Value.ownBlock] at hk
      subst hk
      rcases HAT.out with h | h
      · exact Or.inl h
      · right; omega

end Go.Proofs.YtjaoocincdoaaaaGreatDoor

namespace Go.Proofs.YtjaoocincdoaaaaGreatDoor
open Go.RowKit J

set_option linter.unusedVariables false

/-- What stands under the keys behind a 'put'. -/
def putP {K α : Type} [DecidableEq K] : List K → List α → K → α → List α
  | k' :: ks, p :: ps, k, x => if k' = k then x :: ps else p :: putP ks ps k x
  | _, ps, _, x => ps ++ [x]
/-- The keys behind a 'put'. -/
def putK {K : Type} [DecidableEq K] : List K → K → List K
  | [], k => [k]
  | k' :: ks, k => if k' = k then k' :: ks else k' :: putK ks k

/-- null, a truth, a number, a string. -/
def Lf : Type := Unit ⊕ (Bool ⊕ (Int ⊕ ByteArray))
def Lf.null : Lf := Sum.inl ()
def Lf.truth (t : Bool) : Lf := Sum.inr (Sum.inl t)
def Lf.num (n : Int) : Lf := Sum.inr (Sum.inr (Sum.inl n))
def Lf.str (s : ByteArray) : Lf := Sum.inr (Sum.inr (Sum.inr s))

/-- Values of at most so many brackets within one another. -/
def VT : Nat → Type
  | 0 => Lf
  | n + 1 => Lf ⊕ (List (VT n) ⊕ (List ByteArray × List (VT n)))

def VT.leaf : (n : Nat) → Lf → VT n
  | 0, l => l
  | n + 1, l => (Sum.inl l : Lf ⊕ (List (VT n) ⊕ (List ByteArray × List (VT n))))
def VT.list {n : Nat} (vs : List (VT n)) : VT (n + 1) := (Sum.inr (Sum.inl vs) : Lf ⊕ (List (VT n) ⊕ (List ByteArray × List (VT n))))
def VT.obj {n : Nat} (ks : List ByteArray) (vs : List (VT n)) : VT (n + 1) := (Sum.inr (Sum.inr (ks, vs)) : Lf ⊕ (List (VT n) ⊕ (List ByteArray × List (VT n))))

/-- A leaf that begins at k. -/
def pleaf (s : ByteArray) (k : Nat) (lg : Bool) : Except Nat (Lf × Nat × Bool) :=
  if gb s k = 34 then (if (textR s k).2.2 < 0 then .ok (Lf.str ⟨(textR s k).1.toArray⟩, (textR s k).2.1, lg) else .error (textR s k).2.2.toNat)
  else if gb s k = 45 ∨ isDig (gb s k) = true then
    (if (numR s k).2.2 < 0 then .ok (Lf.num (if gb s k = 45 then -(((numR s k).1.getD none).getD 0) else ((numR s k).1.getD none).getD 0), (numR s k).2.1, numLg lg (numR s k).1) else .error (numR s k).2.2.toNat)
  else if gb s k = 110 then (if (wordR s k (-1) [110, 117, 108, 108]).2 < 0 then .ok (Lf.null, (wordR s k (-1) [110, 117, 108, 108]).1, lg) else .error (wordR s k (-1) [110, 117, 108, 108]).2.toNat)
  else if gb s k = 102 then (if (wordR s k (-1) [102, 97, 108, 115, 101]).2 < 0 then .ok (Lf.truth false, (wordR s k (-1) [102, 97, 108, 115, 101]).1, lg) else .error (wordR s k (-1) [102, 97, 108, 115, 101]).2.toNat)
  else if gb s k = 116 then (if (wordR s k (-1) [116, 114, 117, 101]).2 < 0 then .ok (Lf.truth true, (wordR s k (-1) [116, 114, 117, 101]).1, lg) else .error (wordR s k (-1) [116, 114, 117, 101]).2.toNat)
  else .error k

/-- The things of a list, from one on: what an item is, is handed in. -/
def listF {α : Type} (item : Nat → Bool → Except Nat (α × Nat × Bool)) (s : ByteArray) : Nat → Bool → Nat → Bool → List α → Except Nat (List α × Nat × Bool)
  | 0, _, k, _, _ => .error k
  | f + 1, first, k, lg, acc =>
    if gb s k = 93 then .ok (acc, k + 1, lg)
    else if first = false ∧ gb s k ≠ 44 then .error k
    else match item (if first then k else k + 1) lg with
      | .error p => .error p
      | .ok r => listF item s f false (skip s r.2.1) r.2.2 (acc ++ [r.1])

/-- The keys and values of an object, from one on. -/
def objF {α : Type} (item : Nat → Bool → Except Nat (α × Nat × Bool)) (s : ByteArray) : Nat → Bool → Nat → Bool → List ByteArray → List α → Except Nat ((List ByteArray × List α) × Nat × Bool)
  | 0, _, k, _, _, _ => .error k
  | f + 1, first, k, lg, ks, vs =>
    if gb s k = 125 then .ok ((ks, vs), k + 1, lg)
    else if first = false ∧ gb s k ≠ 44 then .error k
    else
      let t := textR s (skip s (if first then k else k + 1))
      if 0 ≤ t.2.2 then .error t.2.2.toNat
      else if gb s (skip s t.2.1) ≠ 58 then .error (skip s t.2.1)
      else match item (skip s t.2.1 + 1) lg with
        | .error p => .error p
        | .ok r => objF item s f false (skip s r.2.1) r.2.2 (putK ks ⟨t.1.toArray⟩) (putP ks vs ⟨t.1.toArray⟩ r.1)

/-- A value that begins at k, or behind blanks. -/
def pval : (n : Nat) → ByteArray → Nat → Bool → Except Nat (VT n × Nat × Bool)
  | 0, s, k, lg => (pleaf s (skip s k) lg).map fun r => (VT.leaf 0 r.1, r.2)
  | n + 1, s, k, lg =>
    if gb s (skip s k) = 91 then (listF (pval n s) s (s.size + 1) true (skip s (skip s k + 1)) lg []).map fun r => (VT.list r.1, r.2)
    else if gb s (skip s k) = 123 then (objF (pval n s) s (s.size + 1) true (skip s (skip s k + 1)) lg [] []).map fun r => (VT.obj r.1.1 r.1.2, r.2)
    else (pleaf s (skip s k) lg).map fun r => (VT.leaf (n + 1) r.1, r.2)

/-- Two rows, thing by thing. -/
def All2 {α β : Type} (R : α → β → Prop) : List α → List β → Prop
  | [], [] => True
  | a :: us, b :: vs => R a b ∧ All2 R us vs
  | _, _ => False

theorem All2.length {α β : Type} {R : α → β → Prop} : ∀ {us : List α} {vs : List β}, All2 R us vs → us.length = vs.length
  | [], [], _ => rfl
  | a :: us, b :: vs, h => by simp [All2.length h.2]
  | [], b :: vs, h => h.elim
  | a :: us, [], h => h.elim
theorem All2.mono {α β : Type} {R S : α → β → Prop} (h : ∀ a b, R a b → S a b) : ∀ {us : List α} {vs : List β}, All2 R us vs → All2 S us vs
  | [], [], _ => trivial
  | a :: us, b :: vs, k => ⟨h _ _ k.1, All2.mono h k.2⟩
  | [], b :: vs, k => k.elim
  | a :: us, [], k => k.elim
theorem All2.snoc {α β : Type} {R : α → β → Prop} {a : α} {b : β} (hab : R a b) : ∀ {us : List α} {vs : List β}, All2 R us vs → All2 R (us ++ [a]) (vs ++ [b])
  | [], [], _ => ⟨hab, trivial⟩
  | _ :: us, _ :: vs, k => ⟨k.1, All2.snoc hab k.2⟩
  | [], b :: vs, k => k.elim
  | a :: us, [], k => k.elim
theorem All2.put {K α β : Type} [DecidableEq K] {R : α → β → Prop} {a : α} {b : β} (hab : R a b) (k : K) : ∀ {ks : List K} {us : List α} {vs : List β}, ks.length = us.length → All2 R us vs → All2 R (putP ks us k a) (putP ks vs k b)
  | [], [], [], _, _ => by simp [putP, All2, hab]
  | k' :: ks, x :: us, y :: vs, hl, h => by
    simp only [putP]
    split
    · exact ⟨hab, h.2⟩
    · exact ⟨h.1, All2.put hab k (by simpa using hl) h.2⟩
  | k' :: ks, [], vs, hl, h => by simp at hl
  | [], x :: us, vs, hl, h => by simp at hl
  | _, [], _ :: _, _, h => h.elim
  | _, _ :: _, [], _, h => h.elim
theorem All2.mem {α β : Type} {R : α → β → Prop} : ∀ {us : List α} {vs : List β}, All2 R us vs → ∀ b ∈ vs, ∃ a, R a b
  | [], [], _, b, h => by simp at h
  | a :: us, b :: vs, k, c, h => by
    rcases List.mem_cons.1 h with rfl | h
    · exact ⟨a, k.1⟩
    · exact All2.mem k.2 c h
  | [], b :: vs, k, _, _ => k.elim
  | a :: us, [], k, _, _ => k.elim

end Go.Proofs.YtjaoocincdoaaaaGreatDoor
