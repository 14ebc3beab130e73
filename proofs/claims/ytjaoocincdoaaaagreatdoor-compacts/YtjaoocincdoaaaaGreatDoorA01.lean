/- The document's JSON text as plain functions on bytes: no program is named here. What a call leaves of a world: only one block may have turned; and the reader's block of the document's answer. The document's reader: its small steps. The document's reader: hex digits, words, blanks, digits, sequences of UTF-8. The document's reader: blanks, words, digits, sequences of UTF-8. The document's reader: hex digits, bytes between two, words: in whatever state, as plain functions of it. The document's reader: digits, sequences of UTF-8, escapes. The document's reader: an escaped code point, and its bytes. -/
import GoSem.Core.World
import Derived.Test.YtjaoocincdoaaaaGreatDoorProg
import Derived.WalkKit
import Derived.WalkSpells
import Derived.WalkLawsBesides
import Derived.Deep.QuietTactic
import Derived.BigQuiet
import Derived.Deep.LoopGhost
namespace Go.Proofs.YtjaoocincdoaaaaGreatDoor
namespace J

/-- The byte at a place, -1 behind the end. -/
def gb (s : ByteArray) (k : Nat) : Int := if h : k < s.size then ((s[k]'h).toNat : Int) else -1

theorem gb_lt {s : ByteArray} {k : Nat} (h : k < s.size) : gb s k = ((s[k]'h).toNat : Int) := by simp [gb, h]
theorem gb_ge {s : ByteArray} {k : Nat} (h : s.size ≤ k) : gb s k = -1 := by simp [gb, Nat.not_lt.2 h]
theorem gb_bd (s : ByteArray) (k : Nat) : -1 ≤ gb s k ∧ gb s k ≤ 255 := by
  unfold gb; split
  · rename_i h; have := (s[k]'h).toNat_lt; omega
  · omega
theorem lt_of_gb {s : ByteArray} {k : Nat} (h : 0 ≤ gb s k) : k < s.size := by
  unfold gb at h; split at h
  · assumption
  · omega

def isBl (c : Int) : Bool := c == 32 || c == 9 || c == 10 || c == 13

def skipF (s : ByteArray) : Nat → Nat → Nat
  | 0, k => k
  | f + 1, k => if isBl (gb s k) then skipF s f (k + 1) else k

/-- The first place from k on that is no blank. -/
def skip (s : ByteArray) (k : Nat) : Nat := skipF s (s.size - k) k

theorem isBl_lt {s : ByteArray} {k : Nat} (h : isBl (gb s k) = true) : k < s.size := by
  apply lt_of_gb; simp [isBl] at h; omega
theorem skip_bl {s : ByteArray} {k : Nat} (h : isBl (gb s k) = true) : skip s k = skip s (k + 1) := by
  have hk := isBl_lt h
  unfold skip
  rw [show s.size - k = (s.size - (k + 1)) + 1 from by omega]
  simp [skipF, h]
theorem skip_no {s : ByteArray} {k : Nat} (h : isBl (gb s k) = false) : skip s k = k := by
  unfold skip
  cases s.size - k with
  | zero => rfl
  | succ n => simp [skipF, h]
theorem skipF_le (s : ByteArray) : ∀ f k, k ≤ skipF s f k ∧ skipF s f k ≤ k + f
  | 0, k => by simp [skipF]
  | f + 1, k => by
    simp only [skipF]; split
    · have := skipF_le s f (k + 1); omega
    · omega
theorem skip_le (s : ByteArray) (k : Nat) : k ≤ skip s k := (skipF_le s _ k).1
theorem skip_size (s : ByteArray) (k : Nat) (h : k ≤ s.size) : skip s k ≤ s.size := by
  have := (skipF_le s (s.size - k) k).2; unfold skip; omega
theorem skipF_stop (s : ByteArray) : ∀ f k, s.size ≤ k + f → isBl (gb s (skipF s f k)) = false
  | 0, k, h => by simp [skipF, gb_ge (show s.size ≤ k by omega)]; rfl
  | f + 1, k, h => by
    simp only [skipF]; split
    · exact skipF_stop s f (k + 1) (by omega)
    · rename_i hh; simpa using hh
theorem skip_stop (s : ByteArray) (k : Nat) : isBl (gb s (skip s k)) = false := skipF_stop s _ k (by omega)
theorem skip_skip (s : ByteArray) (k : Nat) : skip s (skip s k) = skip s k := skip_no (skip_stop s k)

/-- Bytes that must be there. -/
def wordAt (s : ByteArray) : Nat → List UInt8 → Except Nat Nat
  | k, [] => .ok k
  | k, c :: cs => if gb s k = (c.toNat : Int) then wordAt s (k + 1) cs else .error k

/-- A hex digit's number, -1: it is none. -/
def hexv (c : Int) : Int :=
  if 48 ≤ c ∧ c ≤ 57 then c - 48 else if 97 ≤ c ∧ c ≤ 102 then c - 87 else if 65 ≤ c ∧ c ≤ 70 then c - 55 else -1

def hexIn (s : ByteArray) (k : Nat) (lo hi : Int) : Except Nat Int :=
  let d := hexv (gb s k)
  if d < lo ∨ hi < d ∨ d < 0 then .error k else .ok d

/-- The digits from k on end here. -/
def isDig (c : Int) : Bool := decide (48 ≤ c) && decide (c ≤ 57)
def runF (s : ByteArray) : Nat → Nat → Nat
  | 0, k => k
  | f + 1, k => if isDig (gb s k) then runF s f (k + 1) else k
def runE (s : ByteArray) (k : Nat) : Nat := runF s (s.size - k) k
theorem isDig_lt {s : ByteArray} {k : Nat} (h : isDig (gb s k) = true) : k < s.size := by
  apply lt_of_gb; simp [isDig] at h; omega
theorem runE_dig {s : ByteArray} {k : Nat} (h : isDig (gb s k) = true) : runE s k = runE s (k + 1) := by
  have hk := isDig_lt h
  unfold runE
  rw [show s.size - k = (s.size - (k + 1)) + 1 from by omega]
  simp [runF, h]
theorem runE_no {s : ByteArray} {k : Nat} (h : isDig (gb s k) = false) : runE s k = k := by
  unfold runE
  cases s.size - k with
  | zero => rfl
  | succ n => simp [runF, h]
theorem runF_le (s : ByteArray) : ∀ f k, k ≤ runF s f k ∧ runF s f k ≤ k + f
  | 0, k => by simp [runF]
  | f + 1, k => by
    simp only [runF]; split
    · have := runF_le s f (k + 1); omega
    · omega
theorem runE_le (s : ByteArray) (k : Nat) : k ≤ runE s k := (runF_le s _ k).1
theorem runE_size (s : ByteArray) (k : Nat) (h : k ≤ s.size) : runE s k ≤ s.size := by
  have := (runF_le s (s.size - k) k).2; unfold runE; omega
theorem runF_stop (s : ByteArray) : ∀ f k, s.size ≤ k + f → isDig (gb s (runF s f k)) = false
  | 0, k, h => by simp [runF, gb_ge (show s.size ≤ k by omega)]; rfl
  | f + 1, k, h => by
    simp only [runF]; split
    · exact runF_stop s f (k + 1) (by omega)
    · rename_i hh; simpa using hh
theorem runE_stop (s : ByteArray) (k : Nat) : isDig (gb s (runE s k)) = false := runF_stop s _ k (by omega)

end J
end Go.Proofs.YtjaoocincdoaaaaGreatDoor

namespace Go.Proofs.YtjaoocincdoaaaaGreatDoor
open Go.RowKit

/-- Only block b may have turned; blocks may have come. -/
def But (b : Nat) (w w' : World) : Prop := w.grownBy w' (some b)
theorem But.refl (b : Nat) (w : World) : But b w w := ⟨rfl, rfl, rfl, Nat.le_refl _, fun _ _ _ => rfl⟩
theorem But.trans {b : Nat} {x y z : World} (h : But b x y) (k : But b y z) : But b x z :=
  ⟨k.os.trans h.os, k.tape.trans h.tape, k.output.trans h.output, Nat.le_trans h.size k.size, fun i hi hn => (k.block i (Nat.lt_of_lt_of_le hi h.size) hn).trans (h.block i hi hn)⟩
theorem But.drewN {b : Nat} {x y : World} (h : But b x y) (n : Nat) : But b x (y.drewN n) := ⟨h.os, h.tape, h.output, h.size, h.block⟩
theorem But.drew {b : Nat} {x y : World} (h : But b x y) : But b x y.drew := ⟨h.os, h.tape, h.output, h.size, h.block⟩
theorem But.setCell {b : Nat} {x y : World} (h : But b x y) (o : Nat) (v : Value) : But b x (y.setCell ⟨b, o, none⟩ v) :=
  h.trans ⟨rfl, rfl, rfl, by simp [World.setCell], fun k _ hn => Below.heap_setCell _ _ _ _ (by intro e; apply hn; rw [e])⟩
theorem But.alloc {b : Nat} {x y : World} (h : But b x y) (o : Obj) : But b x (y.alloc o) :=
  h.trans ⟨rfl, rfl, rfl, by simp, fun k hk _ => Below.heap_alloc _ _ _ hk⟩
theorem But.of_below {b : Nat} {x y z : World} (h : But b x y) (k : Below y.heap.size y z) : But b x z :=
  h.trans ⟨k.os, k.tape, k.output, k.size, fun i hi _ => k.block i hi⟩
theorem But.below {b B : Nat} {x y : World} (h : But b x y) (hb : B ≤ b) (hs : B ≤ x.heap.size) : Below B x y :=
  ⟨h.os, h.tape, h.output, h.size, fun k hk => h.block k (by omega) (by intro e; injection e; omega)⟩

/-- The block of the document's reader. -/
def rblk (s : ByteArray) (k : Nat) (d bad : Int) (lg : Bool) : Obj :=
  .cells #[.string s, .int .i64 k, .int .i64 d, .int .i64 bad, .bool lg] 117 (0, 0)

theorem rcells {w : World} {b : Nat} {s : ByteArray} {k : Nat} {d bad : Int} {lg : Bool} (h : w.heap[b]? = some (rblk s k d bad lg)) :
    w.cell? ⟨b, 0, none⟩ = some (.string s) ∧ w.cell? ⟨b, 1, none⟩ = some (.int .i64 k) ∧ w.cell? ⟨b, 2, none⟩ = some (.int .i64 d) ∧ w.cell? ⟨b, 3, none⟩ = some (.int .i64 bad) ∧
    w.cell? ⟨b, 4, none⟩ = some (.bool lg) ∧ ∀ o, w.frozen? ⟨b, o, none⟩ = false := by
  refine ⟨?_, ?_, ?_, ?_, ?_, fun o => ?_⟩ <;> simp [World.cell?, World.frozen?, h, rblk]

theorem heap_setCell_at {w : World} {b o : Nat} {c : Array Value} {t : TypeId} {f : Nat × Nat} (h : w.heap[b]? = some (.cells c t f)) (v : Value) :
    (w.setCell ⟨b, o, none⟩ v).heap[b]? = some (.cells (c.setIfInBounds o v) t f) := by
  simp [World.setCell, Array.getElem?_modify, h]

theorem rset_at {w : World} {b : Nat} {s : ByteArray} {k : Nat} {d bad : Int} {lg : Bool} (h : w.heap[b]? = some (rblk s k d bad lg)) (k' : Nat) {i : Int} (e : i = (k' : Int)) :
    (w.setCell ⟨b, 1, none⟩ (.int .i64 i)).heap[b]? = some (rblk s k' d bad lg) := by
  subst e; exact heap_setCell_at h _
theorem rset_deep {w : World} {b : Nat} {s : ByteArray} {k : Nat} {d bad : Int} {lg : Bool} (h : w.heap[b]? = some (rblk s k d bad lg)) (d' : Int) :
    (w.setCell ⟨b, 2, none⟩ (.int .i64 d')).heap[b]? = some (rblk s k d' bad lg) := heap_setCell_at h _
theorem rset_bad {w : World} {b : Nat} {s : ByteArray} {k : Nat} {d bad : Int} {lg : Bool} (h : w.heap[b]? = some (rblk s k d bad lg)) (bad' : Int) :
    (w.setCell ⟨b, 3, none⟩ (.int .i64 bad')).heap[b]? = some (rblk s k d bad' lg) := heap_setCell_at h _
theorem rset_large {w : World} {b : Nat} {s : ByteArray} {k : Nat} {d bad : Int} {lg : Bool} (h : w.heap[b]? = some (rblk s k d bad lg)) (lg' : Bool) :
    (w.setCell ⟨b, 4, none⟩ (.bool lg')).heap[b]? = some (rblk s k d bad lg') := heap_setCell_at h _

/-- A pointer to block b. -/
def pt (b : Nat) : Value := .pointer (some ⟨b, 0, none⟩)

end Go.Proofs.YtjaoocincdoaaaaGreatDoor

namespace Go.Proofs.YtjaoocincdoaaaaGreatDoor
open Go.RowKit J

set_option linter.unusedVariables false

theorem ret_i {a b : Int} (h : a = b) : Ending.returned (.int .i64 a) = .returned (.int .i64 b) := by rw [h]
theorem wrap64_byte (u : UInt8) : wrap64 (u.toNat : Int) = (u.toNat : Int) := by have := u.toNat_lt; unfold wrap64; omega
theorem ret_b {a b : Bool} (h : a = b) : Ending.returned (.bool a) = .returned (.bool b) := by rw [h]

set_option maxHeartbeats 400000 in
theorem fail_good (b : Nat) (s : ByteArray) (k : Nat) (d : Int) (lg : Bool) (w : World) (hb : w.heap[b]? = some (rblk s k d (-1) lg)) :
    Calls Tryz.prog 87 #[.pointer (some ⟨b, 0, none⟩)] w fun e w' => e = .returned (.tuple #[]) ∧ But b w w' ∧ w'.heap[b]? = some (rblk s k d k lg) := by
  obtain ⟨h0, h1, h2, h3, h4, hf⟩ := rcells hb
  have HB : Hid (w.heap[b]? = some (rblk s k d (-1) lg)) := hb
  clear hb
  go_enter Tryz.func87, Tryz.ntmps87
  go_wp2
  go_end0
  exact ⟨rfl, (But.refl _ _).setCell _ _, rset_bad HB.out _⟩

set_option maxHeartbeats 400000 in
theorem fail_dead (b : Nat) (s : ByteArray) (k : Nat) (d bad : Int) (lg : Bool) (w : World) (hb : w.heap[b]? = some (rblk s k d bad lg)) (hbad : 0 ≤ bad) :
    Calls Tryz.prog 87 #[.pointer (some ⟨b, 0, none⟩)] w fun e w' => e = .returned (.tuple #[]) ∧ w = w' := by
  obtain ⟨h0, h1, h2, h3, h4, hf⟩ := rcells hb
  clear hb
  go_enter Tryz.func87, Tryz.ntmps87
  go_wp2
  go_end0
  exact ⟨rfl, rfl⟩

/-- The next byte as the reader sees it. -/
def cv (s : ByteArray) (k : Nat) (bad : Int) : Int := if 0 ≤ bad then -1 else gb s k
theorem cv_good (s : ByteArray) (k : Nat) : cv s k (-1) = gb s k := by simp [cv]
theorem cv_dead (s : ByteArray) (k : Nat) {bad : Int} (h : 0 ≤ bad) : cv s k bad = -1 := by simp [cv, h]
theorem cv_bd (s : ByteArray) (k : Nat) (bad : Int) : -1 ≤ cv s k bad ∧ cv s k bad ≤ 255 := by
  unfold cv; split
  · omega
  · exact gb_bd s k

set_option maxHeartbeats 400000 in
theorem c_any (b : Nat) (s : ByteArray) (k : Nat) (d bad : Int) (lg : Bool) (w : World) (hb : w.heap[b]? = some (rblk s k d bad lg)) :
    Calls Tryz.prog 79 #[.pointer (some ⟨b, 0, none⟩)] w fun e w' => e = .returned (.int .i64 (cv s k bad)) ∧ ∃ n, w' = w.drewN n := by
  obtain ⟨h0, h1, h2, h3, h4, hf⟩ := rcells hb
  clear hb h2 h4 hf
  by_cases hbad : 0 ≤ bad
  · go_enter Tryz.func79, Tryz.ntmps79
    go_wp2
    go_quiet (fail)
    go_wp2
    go_ret
    exact ⟨ret_i (cv_dead s k hbad).symm, _, rfl⟩
  · have hbad' : bad < 0 := by omega
    by_cases hk : k < s.size
    · have HC : Hid (cv s k bad = ((s[k]'hk).toNat : Int)) := by show cv s k bad = _; rw [cv, if_neg hbad, gb_lt hk]
      go_enter Tryz.func79, Tryz.ntmps79
      go_wp2
      go_quiet (fail)
      go_wp2
      go_quiet (fail)
      go_wp2
      go_ret
      exact ⟨ret_i ((wrap64_byte _).trans HC.out.symm), _, World.drewN_drewN _ _ _⟩
    · have HC : Hid (cv s k bad = -1) := by show cv s k bad = _; rw [cv, if_neg hbad, gb_ge (by omega)]
      have hk' : (s.size : Int) ≤ k := by omega
      go_enter Tryz.func79, Tryz.ntmps79
      go_wp2
      go_quiet (fail)
      go_wp2
      go_ret
      exact ⟨ret_i HC.out.symm, _, rfl⟩

set_option maxHeartbeats 400000 in
theorem take_yes (b : Nat) (s : ByteArray) (k : Nat) (d bad : Int) (lg : Bool) (c : Int) (w : World) (hb : w.heap[b]? = some (rblk s k d bad lg)) (hc : cv s k bad = c) (h0c : 0 ≤ c) (hk : k < 100000) :
    Calls Tryz.prog 118 #[.pointer (some ⟨b, 0, none⟩), .int .u8 c] w fun e w' => e = .returned (.bool true) ∧ But b w w' ∧ w'.heap[b]? = some (rblk s (k + 1) d bad lg) := by
  obtain ⟨h0, h1, h2, h3, h4, hf⟩ := rcells hb
  have HB : Hid (w.heap[b]? = some (rblk s k d bad lg)) := hb
  have hcb := cv_bd s k bad
  have HC : Hid (cv s k bad = c) := hc
  rw [hc] at hcb
  clear hb h2 h4 h0 h3 hc
  go_enter Tryz.func118, Tryz.ntmps118
  go_wp2_with (go_at_call 79; refine (c_any b s k d bad lg _ (by exact HB.out)).mono ?_; rintro e w' ⟨rfl, n, rfl⟩; rw [HC.out])
  go_ret
  exact ⟨rfl, ((But.refl _ _).drewN _).setCell _ _, rset_at (w := w.drewN _) HB.out (k + 1) (by omega)⟩

set_option maxHeartbeats 400000 in
theorem take_no (b : Nat) (s : ByteArray) (k : Nat) (d bad : Int) (lg : Bool) (c : Int) (w : World) (hb : w.heap[b]? = some (rblk s k d bad lg)) (hc : cv s k bad ≠ c) (hc0 : 0 ≤ c) (hc1 : c ≤ 255) :
    Calls Tryz.prog 118 #[.pointer (some ⟨b, 0, none⟩), .int .u8 c] w fun e w' => e = .returned (.bool false) ∧ But b w w' ∧ w'.heap[b]? = some (rblk s k d bad lg) := by
  have HB : Hid (w.heap[b]? = some (rblk s k d bad lg)) := hb
  have hcb := cv_bd s k bad
  have hne : (cv s k bad == c) = false := beq_eq_false_iff_ne.2 hc
  clear hb hc
  go_enter Tryz.func118, Tryz.ntmps118
  go_wp2_with (go_at_call 79; refine (c_any b s k d bad lg _ (by exact HB.out)).mono ?_; rintro e w' ⟨rfl, n, rfl⟩)
  go_ret
  exact ⟨rfl, (But.refl _ _).drewN _, HB.out⟩

set_option maxHeartbeats 400000 in
theorem from_yes (b : Nat) (s : ByteArray) (k : Nat) (d bad : Int) (lg : Bool) (lo hi : Int) (w : World) (hb : w.heap[b]? = some (rblk s k d bad lg)) (h1c : lo ≤ cv s k bad) (h2c : cv s k bad ≤ hi) (hk : k < 100000) :
    Calls Tryz.prog 149 #[.pointer (some ⟨b, 0, none⟩), .int .i64 lo, .int .i64 hi] w fun e w' => e = .returned (.int .i64 (cv s k bad)) ∧ But b w w' ∧ w'.heap[b]? = some (rblk s (k + 1) d bad lg) := by
  obtain ⟨h0, h1, h2, h3, h4, hf⟩ := rcells hb
  have HB : Hid (w.heap[b]? = some (rblk s k d bad lg)) := hb
  have hcb := cv_bd s k bad
  clear hb h2 h4 h0 h3
  go_enter Tryz.func149, Tryz.ntmps149
  go_wp2_with (go_at_call 79; refine (c_any b s k d bad lg _ (by exact HB.out)).mono ?_; rintro e w' ⟨rfl, n, rfl⟩)
  go_ret
  exact ⟨rfl, ((But.refl _ _).drewN _).setCell _ _, rset_at (w := w.drewN _) HB.out (k + 1) (by omega)⟩

set_option maxHeartbeats 400000 in
theorem from_no (b : Nat) (s : ByteArray) (k : Nat) (d : Int) (lg : Bool) (lo hi : Int) (w : World) (hb : w.heap[b]? = some (rblk s k d (-1) lg)) (hc : gb s k < lo ∨ hi < gb s k) :
    Calls Tryz.prog 149 #[.pointer (some ⟨b, 0, none⟩), .int .i64 lo, .int .i64 hi] w fun e w' => e = .returned (.int .i64 0) ∧ But b w w' ∧ w'.heap[b]? = some (rblk s k d k lg) := by
  have HB : Hid (w.heap[b]? = some (rblk s k d (-1) lg)) := hb
  have hcb := gb_bd s k
  clear hb
  rcases hc with hc | hc
  all_goals
    go_enter Tryz.func149, Tryz.ntmps149
    go_wp2_with (first | (go_at_call 79; refine (c_any b s k d (-1) lg _ (by exact HB.out)).mono ?_; rintro e w' ⟨rfl, n, rfl⟩; rw [cv_good]) | (go_at_call 87; refine (fail_good b s k d lg _ (by exact HB.out)).mono ?_; rintro e w' ⟨rfl, hbut, hblk⟩))
    all_goals
      go_ret
      exact ⟨rfl, ((But.refl _ _).drewN _).trans hbut, hblk⟩

set_option maxHeartbeats 400000 in
theorem from_dead (b : Nat) (s : ByteArray) (k : Nat) (d bad : Int) (lg : Bool) (lo hi : Int) (w : World) (hb : w.heap[b]? = some (rblk s k d bad lg)) (hbad : 0 ≤ bad) (hlo : 0 ≤ lo) :
    Calls Tryz.prog 149 #[.pointer (some ⟨b, 0, none⟩), .int .i64 lo, .int .i64 hi] w fun e w' => e = .returned (.int .i64 0) ∧ But b w w' ∧ w'.heap[b]? = some (rblk s k d bad lg) := by
  have HB : Hid (w.heap[b]? = some (rblk s k d bad lg)) := hb
  have HD : Hid (0 ≤ bad) := hbad
  have hlt : (-1 : Int) < lo := by omega
  clear hb
  go_enter Tryz.func149, Tryz.ntmps149
  go_wp2_with (first | (go_at_call 79; refine (c_any b s k d bad lg _ (by exact HB.out)).mono ?_; rintro e w' ⟨rfl, n, rfl⟩; rw [cv_dead s k HD.out]) | (go_at_call 87; refine (fail_dead b s k d bad lg _ (by exact HB.out) HD.out).mono ?_; rintro e w' ⟨rfl, rfl⟩))
  go_ret
  exact ⟨rfl, (But.refl _ _).drewN _, HB.out⟩

end Go.Proofs.YtjaoocincdoaaaaGreatDoor

namespace Go.Proofs.YtjaoocincdoaaaaGreatDoor
open Go.RowKit J

set_option linter.unusedVariables false

theorem hexv_bd (c : Int) : -1 ≤ hexv c ∧ hexv c ≤ 15 := by unfold hexv; repeat' split <;> omega

set_option maxHeartbeats 1000000 in
theorem hex_yes (b : Nat) (s : ByteArray) (k : Nat) (d bad : Int) (lg : Bool) (lo hi : Int) (w : World) (hb : w.heap[b]? = some (rblk s k d bad lg)) (h0 : 0 ≤ hexv (cv s k bad)) (h1 : lo ≤ hexv (cv s k bad)) (h2 : hexv (cv s k bad) ≤ hi) (hk : k < 100000) :
    Calls Tryz.prog 163 #[.pointer (some ⟨b, 0, none⟩), .int .i64 lo, .int .i64 hi] w fun e w' => e = .returned (.int .i64 (hexv (cv s k bad))) ∧ But b w w' ∧ w'.heap[b]? = some (rblk s (k + 1) d bad lg) := by
  obtain ⟨g0, g1, g2, g3, g4, hf⟩ := rcells hb
  have HB : Hid (w.heap[b]? = some (rblk s k d bad lg)) := hb
  have hcb := cv_bd s k bad
  obtain ⟨c, hc⟩ : ∃ c, c = cv s k bad := ⟨_, rfl⟩
  rw [← hc] at h0 h1 h2 hcb ⊢
  have HC : Hid (c = cv s k bad) := hc
  clear hb g2 g4 g0 g3 hc
  rcases (show (48 ≤ c ∧ c ≤ 57) ∨ (97 ≤ c ∧ c ≤ 102) ∨ (65 ≤ c ∧ c ≤ 70) ∨ hexv c = -1 from by unfold hexv; repeat' split <;> omega) with hr | hr | hr | hr
  · have hd : hexv c = c - 48 := by unfold hexv; rw [if_pos hr]
    rw [hd] at h0 h1 h2 ⊢; clear hd
    obtain ⟨r1, r2⟩ := hr
    go_enter Tryz.func163, Tryz.ntmps163
    go_wp2_with (go_at_call 79; refine (c_any b s k d bad lg _ (by exact HB.out)).mono ?_; rintro e w' ⟨rfl, n, rfl⟩; rw [← HC.out])
    go_ret
    exact ⟨rfl, ((But.refl _ _).drewN _).setCell _ _, rset_at (w := w.drewN _) HB.out (k + 1) (by omega)⟩
  · have hd : hexv c = c - 97 + 10 := by unfold hexv; rw [if_neg (by omega), if_pos hr]; omega
    rw [hd] at h0 h1 h2 ⊢; clear hd
    obtain ⟨r1, r2⟩ := hr
    go_enter Tryz.func163, Tryz.ntmps163
    go_wp2_with (go_at_call 79; refine (c_any b s k d bad lg _ (by exact HB.out)).mono ?_; rintro e w' ⟨rfl, n, rfl⟩; rw [← HC.out])
    go_ret
    exact ⟨rfl, ((But.refl _ _).drewN _).setCell _ _, rset_at (w := w.drewN _) HB.out (k + 1) (by omega)⟩
  · have hd : hexv c = c - 65 + 10 := by unfold hexv; rw [if_neg (by omega), if_neg (by omega), if_pos hr]; omega
    rw [hd] at h0 h1 h2 ⊢; clear hd
    obtain ⟨r1, r2⟩ := hr
    go_enter Tryz.func163, Tryz.ntmps163
    go_wp2_with (go_at_call 79; refine (c_any b s k d bad lg _ (by exact HB.out)).mono ?_; rintro e w' ⟨rfl, n, rfl⟩; rw [← HC.out])
    go_ret
    exact ⟨rfl, ((But.refl _ _).drewN _).setCell _ _, rset_at (w := w.drewN _) HB.out (k + 1) (by omega)⟩
  · omega

/-- What 'hex' leaves where it says no: in a good state the place, in a dead one nothing. -/
def failed (k : Nat) (bad : Int) : Int := if 0 ≤ bad then bad else k
theorem failed_good (k : Nat) : failed k (-1) = k := by simp [failed]
theorem failed_dead (k : Nat) {bad : Int} (h : 0 ≤ bad) : failed k bad = bad := by simp [failed, h]

theorem fail_any (b : Nat) (s : ByteArray) (k : Nat) (d bad : Int) (lg : Bool) (w : World) (hb : w.heap[b]? = some (rblk s k d bad lg)) (hbad : -1 ≤ bad) :
    Calls Tryz.prog 87 #[.pointer (some ⟨b, 0, none⟩)] w fun e w' => e = .returned (.tuple #[]) ∧ But b w w' ∧ w'.heap[b]? = some (rblk s k d (failed k bad) lg) := by
  by_cases h : 0 ≤ bad
  · refine (fail_dead b s k d bad lg w hb h).mono ?_
    rintro e w' ⟨rfl, rfl⟩
    exact ⟨rfl, But.refl _ _, by rw [failed_dead k h]; exact hb⟩
  · have : bad = -1 := by omega
    subst this
    refine (fail_good b s k d lg w hb).mono ?_
    rintro e w' ⟨rfl, h1, h2⟩
    exact ⟨rfl, h1, by rw [failed_good]; exact h2⟩

set_option maxHeartbeats 1000000 in
theorem hex_no (b : Nat) (s : ByteArray) (k : Nat) (d bad : Int) (lg : Bool) (lo hi : Int) (w : World) (hb : w.heap[b]? = some (rblk s k d bad lg)) (hbad : -1 ≤ bad) (hn : hexv (cv s k bad) < lo ∨ hi < hexv (cv s k bad) ∨ hexv (cv s k bad) < 0) :
    Calls Tryz.prog 163 #[.pointer (some ⟨b, 0, none⟩), .int .i64 lo, .int .i64 hi] w fun e w' => e = .returned (.int .i64 0) ∧ But b w w' ∧ w'.heap[b]? = some (rblk s k d (failed k bad) lg) := by
  have HB : Hid (w.heap[b]? = some (rblk s k d bad lg)) := hb
  have hcb := cv_bd s k bad
  obtain ⟨c, hc⟩ : ∃ c, c = cv s k bad := ⟨_, rfl⟩
  rw [← hc] at hn hcb
  have HC : Hid (c = cv s k bad) := hc
  clear hb hc
  rcases (show (48 ≤ c ∧ c ≤ 57) ∨ (97 ≤ c ∧ c ≤ 102) ∨ (65 ≤ c ∧ c ≤ 70) ∨ (c < 48 ∨ (57 < c ∧ c < 65) ∨ (70 < c ∧ c < 97) ∨ 102 < c) from by omega) with hr | hr | hr | hr
  · have hd : hexv c = c - 48 := by unfold hexv; rw [if_pos hr]
    rw [hd] at hn; clear hd
    obtain ⟨r1, r2⟩ := hr
    by_cases hlo : c - 48 < lo
    all_goals
      have hn' : ¬ (lo ≤ c - 48 ∧ c - 48 ≤ hi) := by omega
      clear hn
      try have hhi : hi < c - 48 := by omega
      go_enter Tryz.func163, Tryz.ntmps163
      go_wp2_with (first | (go_at_call 79; refine (c_any b s k d bad lg _ (by exact HB.out)).mono ?_; rintro e w' ⟨rfl, n, rfl⟩; rw [← HC.out]) | (go_at_call 87; refine (fail_any b s k d bad lg _ (by exact HB.out) hbad).mono ?_; rintro e w' ⟨rfl, hbut, hblk⟩))
      go_ret
      exact ⟨rfl, ((But.refl _ _).drewN _).trans hbut, hblk⟩
  · have hd : hexv c = c - 97 + 10 := by unfold hexv; rw [if_neg (by omega), if_pos hr]; omega
    rw [hd] at hn; clear hd
    obtain ⟨r1, r2⟩ := hr
    by_cases hlo : c - 97 + 10 < lo
    all_goals
      have hn' : ¬ (lo ≤ c - 97 + 10 ∧ c - 97 + 10 ≤ hi) := by omega
      clear hn
      try have hhi : hi < c - 97 + 10 := by omega
      go_enter Tryz.func163, Tryz.ntmps163
      go_wp2_with (first | (go_at_call 79; refine (c_any b s k d bad lg _ (by exact HB.out)).mono ?_; rintro e w' ⟨rfl, n, rfl⟩; rw [← HC.out]) | (go_at_call 87; refine (fail_any b s k d bad lg _ (by exact HB.out) hbad).mono ?_; rintro e w' ⟨rfl, hbut, hblk⟩))
      go_ret
      exact ⟨rfl, ((But.refl _ _).drewN _).trans hbut, hblk⟩
  · have hd : hexv c = c - 65 + 10 := by unfold hexv; rw [if_neg (by omega), if_neg (by omega), if_pos hr]; omega
    rw [hd] at hn; clear hd
    obtain ⟨r1, r2⟩ := hr
    by_cases hlo : c - 65 + 10 < lo
    all_goals
      have hn' : ¬ (lo ≤ c - 65 + 10 ∧ c - 65 + 10 ≤ hi) := by omega
      clear hn
      try have hhi : hi < c - 65 + 10 := by omega
      go_enter Tryz.func163, Tryz.ntmps163
      go_wp2_with (first | (go_at_call 79; refine (c_any b s k d bad lg _ (by exact HB.out)).mono ?_; rintro e w' ⟨rfl, n, rfl⟩; rw [← HC.out]) | (go_at_call 87; refine (fail_any b s k d bad lg _ (by exact HB.out) hbad).mono ?_; rintro e w' ⟨rfl, hbut, hblk⟩))
      go_ret
      exact ⟨rfl, ((But.refl _ _).drewN _).trans hbut, hblk⟩
  · clear hn
    by_cases hlo : (-1 : Int) < lo
    all_goals
      by_cases hhi : hi < (-1 : Int)
      all_goals
        rcases hr with hr | hr | hr | hr
        all_goals
          try obtain ⟨hr, hr2⟩ := hr
          go_enter Tryz.func163, Tryz.ntmps163
          go_wp2_with (first | (go_at_call 79; refine (c_any b s k d bad lg _ (by exact HB.out)).mono ?_; rintro e w' ⟨rfl, n, rfl⟩; rw [← HC.out]) | (go_at_call 87; refine (fail_any b s k d bad lg _ (by exact HB.out) hbad).mono ?_; rintro e w' ⟨rfl, hbut, hblk⟩))
          go_ret
          exact ⟨rfl, ((But.refl _ _).drewN _).trans hbut, hblk⟩


end Go.Proofs.YtjaoocincdoaaaaGreatDoor

namespace Go.Proofs.YtjaoocincdoaaaaGreatDoor
open Go.RowKit J

set_option linter.unusedVariables false

set_option maxHeartbeats 1000000 in
theorem blanks_dead (b : Nat) (s : ByteArray) (k : Nat) (d bad : Int) (lg : Bool) (w : World) (hb : w.heap[b]? = some (rblk s k d bad lg)) (hbad : 0 ≤ bad) :
    Calls Tryz.prog 53 #[.pointer (some ⟨b, 0, none⟩)] w fun e w' => e = .returned (.tuple #[]) ∧ But b w w' ∧ w'.heap[b]? = some (rblk s k d bad lg) := by
  have HB : Hid (w.heap[b]? = some (rblk s k d bad lg)) := hb
  have HD : Hid (0 ≤ bad) := hbad
  clear hb hbad
  go_enter Tryz.func53, Tryz.ntmps53
  go_wp2_with fail
  refine wp_loop_rounds 1 ?_
  rw [rounds_succ]
  go_wp2_with (go_at_call 79; refine (c_any b s k d bad lg _ (by exact HB.out)).mono ?_; rintro e w' ⟨rfl, n, rfl⟩; rw [cv_dead s k HD.out])
  go_end0
  exact ⟨rfl, (But.refl _ _).drewN _, HB.out⟩

set_option maxHeartbeats 1000000 in
theorem blanks_good (b : Nat) (s : ByteArray) (k : Nat) (d : Int) (lg : Bool) (w : World) (hb : w.heap[b]? = some (rblk s k d (-1) lg)) (hs : s.size ≤ 1000) :
    Calls Tryz.prog 53 #[.pointer (some ⟨b, 0, none⟩)] w fun e w' => e = .returned (.tuple #[]) ∧ But b w w' ∧ w'.heap[b]? = some (rblk s (skip s k) d (-1) lg) := by
  go_enter Tryz.func53, Tryz.ntmps53
  go_wp2_with fail
  go_loopg [] (s.size - k) (fun g wr => ∃ j : Nat, g = s.size - j ∧ skip s j = skip s k ∧ But b w wr ∧ wr.heap[b]? = some (rblk s j d (-1) lg))
  case atStart => exact ⟨k, rfl, rfl, But.refl _ _, hb⟩
  case round =>
    obtain ⟨j, hg, hsk, hbut, hb1⟩ := hrel
    clear hb
    obtain ⟨g0, g1, g2, g3, g4, hf⟩ := rcells hb1
    have HB : Hid (wr.heap[b]? = some (rblk s j d (-1) lg)) := hb1
    have HG : Hid (gk = s.size - j) := hg
    have HS : Hid (skip s j = skip s k) := hsk
    obtain ⟨c, hc⟩ : ∃ c, c = gb s j := ⟨_, rfl⟩
    have hcb := gb_bd s j
    rw [← hc] at hcb
    have hjs : 0 ≤ c → j < s.size := fun h => lt_of_gb (by omega)
    have HC : Hid (c = gb s j) := hc
    clear hb1 hg hsk hc g0 g2 g3 g4
    rcases (show c = 32 ∨ c = 9 ∨ c = 10 ∨ c = 13 ∨ (c ≠ 32 ∧ c ≠ 9 ∧ c ≠ 10 ∧ c ≠ 13) from by omega) with rfl | rfl | rfl | rfl | hn
    iterate 4
      · have hj := hjs (by omega)
        clear hcb hjs
        go_wp2_with (go_at_call 79; refine (c_any b s j d (-1) lg _ (by exact HB.out)).mono ?_; rintro e w' ⟨rfl, n, rfl⟩; rw [cv_good, ← HC.out])
        go_roundg (s.size - (j + 1))
        case measure => rw [HG.out]; omega
        case rel => exact ⟨j + 1, rfl, by rw [← HS.out]; exact (skip_bl (by rw [← HC.out]; rfl)).symm, (hbut.drewN _).setCell _ _, rset_at (w := wr.drewN _) HB.out (j + 1) (by omega)⟩
    · have e1 : (c == 32) = false := beq_eq_false_iff_ne.2 hn.1
      have e2 : (c == 9) = false := beq_eq_false_iff_ne.2 hn.2.1
      have e3 : (c == 10) = false := beq_eq_false_iff_ne.2 hn.2.2.1
      have e4 : (c == 13) = false := beq_eq_false_iff_ne.2 hn.2.2.2
      clear hjs hn
      have hfin : Hid (skip s k = j) := by show skip s k = j; rw [← HS.out]; exact skip_no (by rw [← HC.out]; simp [isBl, e1, e2, e3, e4])
      go_wp2_with (go_at_call 79; refine (c_any b s j d (-1) lg _ (by exact HB.out)).mono ?_; rintro e w' ⟨rfl, n, rfl⟩; rw [cv_good, ← HC.out])
      go_end0
      exact ⟨rfl, hbut.drewN _, by rw [hfin.out]; exact HB.out⟩

end Go.Proofs.YtjaoocincdoaaaaGreatDoor

namespace Go.Proofs.YtjaoocincdoaaaaGreatDoor
open Go.RowKit J

set_option linter.unusedVariables false

/-- 'hex' as a function of the state: the digit, the place behind, what is wrong. -/
def hexR (s : ByteArray) (k : Nat) (bad lo hi : Int) : Int × Nat × Int :=
  if hexv (cv s k bad) < lo ∨ hi < hexv (cv s k bad) ∨ hexv (cv s k bad) < 0 then (0, k, failed k bad) else (hexv (cv s k bad), k + 1, bad)

theorem cv_lt {s : ByteArray} {k : Nat} {bad : Int} (h : 0 ≤ cv s k bad) : k < s.size ∧ bad < 0 := by
  unfold cv at h; split at h
  · omega
  · exact ⟨lt_of_gb h, by omega⟩
theorem hexv_neg {c : Int} (h : c < 0) : hexv c = -1 := by unfold hexv; rw [if_neg (by omega), if_neg (by omega), if_neg (by omega)]

theorem hex_any (b : Nat) (s : ByteArray) (k : Nat) (d bad : Int) (lg : Bool) (lo hi : Int) (w : World) (hb : w.heap[b]? = some (rblk s k d bad lg)) (hs : s.size ≤ 1000) (hbad : -1 ≤ bad) :
    Calls Tryz.prog 163 #[.pointer (some ⟨b, 0, none⟩), .int .i64 lo, .int .i64 hi] w fun e w' => e = .returned (.int .i64 (hexR s k bad lo hi).1) ∧ But b w w' ∧ w'.heap[b]? = some (rblk s (hexR s k bad lo hi).2.1 d (hexR s k bad lo hi).2.2 lg) := by
  by_cases h : hexv (cv s k bad) < lo ∨ hi < hexv (cv s k bad) ∨ hexv (cv s k bad) < 0
  · have e : hexR s k bad lo hi = (0, k, failed k bad) := by unfold hexR; rw [if_pos h]
    rw [e]
    exact hex_no b s k d bad lg lo hi w hb hbad h
  · have e : hexR s k bad lo hi = (hexv (cv s k bad), k + 1, bad) := by unfold hexR; rw [if_neg h]
    rw [e]
    have h0 : 0 ≤ cv s k bad := by
      rcases Int.lt_or_le (cv s k bad) 0 with hh | hh
      · have := hexv_neg hh; omega
      · exact hh
    have := (cv_lt h0).1
    exact hex_yes b s k d bad lg lo hi w hb (by omega) (by omega) (by omega) (by omega)

theorem failed_ge {k : Nat} {bad : Int} : 0 ≤ failed k bad := by unfold failed; split <;> omega
theorem hexR_bd (s : ByteArray) (k : Nat) (bad lo hi : Int) (hbad : -1 ≤ bad) : 0 ≤ (hexR s k bad lo hi).1 ∧ (hexR s k bad lo hi).1 ≤ 15 ∧ -1 ≤ (hexR s k bad lo hi).2.2 := by
  have hv := hexv_bd (cv s k bad)
  unfold hexR; split
  · have := @failed_ge k bad; exact ⟨by simp, by simp, by simp; omega⟩
  · exact ⟨by simp; omega, by simp; omega, by simpa using hbad⟩

/-- 'from' as a function of the state. -/
def fromR (s : ByteArray) (k : Nat) (bad lo hi : Int) : Int × Nat × Int :=
  if lo ≤ cv s k bad ∧ cv s k bad ≤ hi then (cv s k bad, k + 1, bad) else (0, k, failed k bad)

theorem from_any (b : Nat) (s : ByteArray) (k : Nat) (d bad : Int) (lg : Bool) (lo hi : Int) (w : World) (hb : w.heap[b]? = some (rblk s k d bad lg)) (hs : s.size ≤ 1000) (hbad : -1 ≤ bad) (hlo : 0 ≤ lo) :
    Calls Tryz.prog 149 #[.pointer (some ⟨b, 0, none⟩), .int .i64 lo, .int .i64 hi] w fun e w' => e = .returned (.int .i64 (fromR s k bad lo hi).1) ∧ But b w w' ∧ w'.heap[b]? = some (rblk s (fromR s k bad lo hi).2.1 d (fromR s k bad lo hi).2.2 lg) := by
  by_cases h : lo ≤ cv s k bad ∧ cv s k bad ≤ hi
  · have e : fromR s k bad lo hi = (cv s k bad, k + 1, bad) := by unfold fromR; rw [if_pos h]
    rw [e]
    have := (cv_lt (show 0 ≤ cv s k bad by omega)).1
    exact from_yes b s k d bad lg lo hi w hb h.1 h.2 (by omega)
  · have e : fromR s k bad lo hi = (0, k, failed k bad) := by unfold fromR; rw [if_neg h]
    rw [e]
    by_cases h0 : 0 ≤ bad
    · rw [failed_dead k h0]
      exact from_dead b s k d bad lg lo hi w hb h0 hlo
    · have hm : bad = -1 := by omega
      subst hm
      rw [failed_good]
      rw [cv_good] at h
      exact from_no b s k d lg lo hi w hb (by omega)

theorem fromR_bd (s : ByteArray) (k : Nat) (bad lo hi : Int) (hbad : -1 ≤ bad) (hlo : 0 ≤ lo) : 0 ≤ (fromR s k bad lo hi).1 ∧ (fromR s k bad lo hi).1 ≤ 255 ∧ -1 ≤ (fromR s k bad lo hi).2.2 := by
  have hv := cv_bd s k bad
  unfold fromR; split
  · exact ⟨by simp; omega, by simp; omega, by simpa using hbad⟩
  · have := @failed_ge k bad; exact ⟨by simp, by simp, by simp; omega⟩

/-- 'word' as a function of the state: the place behind, what is wrong. -/
def wordR (s : ByteArray) : Nat → Int → List UInt8 → Nat × Int
  | k, bad, [] => (k, bad)
  | k, bad, c :: cs => if cv s k bad = (c.toNat : Int) then wordR s (k + 1) bad cs else (k, failed k bad)

theorem drop_cons' (lit : ByteArray) (m : Nat) (h : m < lit.size) : lit.data.toList.drop m = lit[m] :: lit.data.toList.drop (m + 1) := by
  rw [List.drop_eq_getElem_cons (by simpa using h)]; rfl

set_option maxHeartbeats 1000000 in
theorem word_any (b : Nat) (s lit : ByteArray) (k : Nat) (d bad : Int) (lg : Bool) (w : World) (hb : w.heap[b]? = some (rblk s k d bad lg)) (hs : s.size ≤ 1000) (hbad : -1 ≤ bad) (hl : lit.size ≤ 1000) :
    Calls Tryz.prog 84 #[.pointer (some ⟨b, 0, none⟩), .string lit] w fun e w' => e = .returned (.tuple #[]) ∧ But b w w' ∧ w'.heap[b]? = some (rblk s (wordR s k bad lit.data.toList).1 d (wordR s k bad lit.data.toList).2 lg) := by
  have HB0 : Hid (w.heap[b]? = some (rblk s k d bad lg)) := hb
  have HBad : Hid (-1 ≤ bad) := hbad
  clear hb
  go_enter Tryz.func84, Tryz.ntmps84
  go_wp2_with fail
  go_loopg [4] lit.size (fun g i wr => ∃ m : Nat, m ≤ lit.size ∧ g = lit.size - m ∧ i = .int .i64 m ∧ wordR s (k + m) bad (lit.data.toList.drop m) = wordR s k bad lit.data.toList ∧ But b w wr ∧ wr.heap[b]? = some (rblk s (k + m) d bad lg))
  case atStart => exact ⟨0, by omega, by omega, rfl, by simp, But.refl _ _, HB0.out⟩
  case round =>
    obtain ⟨m, hm, hg, rfl, hw, hbut, hb1⟩ := hrel
    have HB : Hid (wr.heap[b]? = some (rblk s (k + m) d bad lg)) := hb1
    have HG : Hid (gk = lit.size - m) := hg
    have HW : Hid (wordR s (k + m) bad (lit.data.toList.drop m) = wordR s k bad lit.data.toList) := hw
    clear hb1 hg hw
    by_cases hlt : m < lit.size
    · obtain ⟨c, hc⟩ : ∃ c : Int, c = ((lit[m]'hlt).toNat : Int) := ⟨_, rfl⟩
      have hc255 := (lit[m]'hlt).toNat_lt
      by_cases hy : cv s (k + m) bad = ((lit[m]'hlt).toNat : Int)
      · have hkk := (cv_lt (show 0 ≤ cv s (k + m) bad by omega)).1
        have HY : Hid (cv s (k + m) bad = ((lit[m]'hlt).toNat : Int)) := hy
        have HN : Hid (wordR s (k + (m + 1)) bad (lit.data.toList.drop (m + 1)) = wordR s k bad lit.data.toList) := by
          show _ = _
          rw [← HW.out, drop_cons' lit m hlt, wordR, if_pos hy]; rfl
        clear hy hc c
        go_wp2_with (go_at_call 118; refine (take_yes b s (k + m) d bad lg _ _ (by exact HB.out) HY.out (by omega) (by omega)).mono ?_; rintro e w' ⟨rfl, hbut2, hblk2⟩)
        go_roundg (lit.size - (m + 1))
        case measure => rw [HG.out]; omega
        case rel => exact ⟨m + 1, by omega, rfl, by go_num, HN.out, hbut.trans hbut2, hblk2⟩
      · have HY : Hid (cv s (k + m) bad ≠ ((lit[m]'hlt).toNat : Int)) := hy
        have HN : Hid (wordR s k bad lit.data.toList = (k + m, failed (k + m) bad)) := by
          show _ = _
          rw [← HW.out, drop_cons' lit m hlt, wordR, if_neg hy]
        clear hy hc c
        go_wp2_with (first | (go_at_call 118; refine (take_no b s (k + m) d bad lg _ _ (by exact HB.out) HY.out (by omega) (by omega)).mono ?_; rintro e w' ⟨rfl, hbut2, hblk2⟩) | (go_at_call 87; refine (fail_any b s (k + m) d bad lg _ (by assumption) HBad.out).mono ?_; rintro e w' ⟨rfl, hbut3, hblk3⟩))
        exact bodyPost_ret (results_none rfl _ _ _) rfl ⟨rfl, (hbut.trans hbut2).trans hbut3, by rw [HN.out]; exact hblk3⟩
    · have HN : Hid (wordR s k bad lit.data.toList = (k + m, bad)) := by
        show _ = _
        rw [← HW.out, List.drop_eq_nil_of_le (by simp; omega), wordR]
      go_wp2
      go_end0
      exact ⟨rfl, hbut, by rw [HN.out]; exact HB.out⟩

end Go.Proofs.YtjaoocincdoaaaaGreatDoor

namespace Go.Proofs.YtjaoocincdoaaaaGreatDoor
open Go.RowKit J

set_option linter.unusedVariables false

theorem from_ex (b : Nat) (s : ByteArray) (k : Nat) (d bad : Int) (lg : Bool) (lo hi : Int) (w : World) (hb : w.heap[b]? = some (rblk s k d bad lg)) (hs : s.size ≤ 1000) (hbad : -1 ≤ bad) (hlo : 0 ≤ lo) :
    Calls Tryz.prog 149 #[.pointer (some ⟨b, 0, none⟩), .int .i64 lo, .int .i64 hi] w fun e w' => ∃ a k' bad', e = .returned (.int .i64 a) ∧ But b w w' ∧ w'.heap[b]? = some (rblk s k' d bad' lg) ∧ Hid (fromR s k bad lo hi = (a, k', bad')) ∧ 0 ≤ a ∧ a ≤ 255 ∧ -1 ≤ bad' := by
  refine (from_any b s k d bad lg lo hi w hb hs hbad hlo).mono ?_
  rintro e w' ⟨rfl, h1, h2⟩
  have := fromR_bd s k bad lo hi hbad hlo
  exact ⟨_, _, _, rfl, h1, h2, rfl, this.1, this.2.1, this.2.2⟩

theorem hex_ex (b : Nat) (s : ByteArray) (k : Nat) (d bad : Int) (lg : Bool) (lo hi : Int) (w : World) (hb : w.heap[b]? = some (rblk s k d bad lg)) (hs : s.size ≤ 1000) (hbad : -1 ≤ bad) :
    Calls Tryz.prog 163 #[.pointer (some ⟨b, 0, none⟩), .int .i64 lo, .int .i64 hi] w fun e w' => ∃ a k' bad', e = .returned (.int .i64 a) ∧ But b w w' ∧ w'.heap[b]? = some (rblk s k' d bad' lg) ∧ Hid (hexR s k bad lo hi = (a, k', bad')) ∧ 0 ≤ a ∧ a ≤ 15 ∧ -1 ≤ bad' := by
  refine (hex_any b s k d bad lg lo hi w hb hs hbad).mono ?_
  rintro e w' ⟨rfl, h1, h2⟩
  have := hexR_bd s k bad lo hi hbad
  exact ⟨_, _, _, rfl, h1, h2, rfl, this.1, this.2.1, this.2.2⟩

theorem wordR_bd (s : ByteArray) : ∀ (l : List UInt8) (k : Nat) (bad : Int), -1 ≤ bad → -1 ≤ (wordR s k bad l).2
  | [], k, bad, h => h
  | c :: cs, k, bad, h => by
    simp only [wordR]; split
    · exact wordR_bd s cs (k + 1) bad h
    · have := @failed_ge k bad; simp; omega

theorem word_ex (b : Nat) (s lit : ByteArray) (k : Nat) (d bad : Int) (lg : Bool) (w : World) (hb : w.heap[b]? = some (rblk s k d bad lg)) (hs : s.size ≤ 1000) (hbad : -1 ≤ bad) (hl : lit.size ≤ 1000) :
    Calls Tryz.prog 84 #[.pointer (some ⟨b, 0, none⟩), .string lit] w fun e w' => ∃ k' bad', e = .returned (.tuple #[]) ∧ But b w w' ∧ w'.heap[b]? = some (rblk s k' d bad' lg) ∧ Hid (wordR s k bad lit.data.toList = (k', bad')) ∧ -1 ≤ bad' := by
  refine (word_any b s lit k d bad lg w hb hs hbad hl).mono ?_
  rintro e w' ⟨rfl, h1, h2⟩
  exact ⟨_, _, rfl, h1, h2, rfl, wordR_bd s _ _ _ hbad⟩

/-- 'many' as a function of the state. -/
def manyR (s : ByteArray) (k : Nat) (bad : Int) : Nat × Int :=
  let r1 := fromR s k bad 194 244
  let r2 := fromR s r1.2.1 r1.2.2 (if r1.1 = 240 then 144 else if r1.1 = 224 then 160 else 128) (if r1.1 = 244 then 143 else if r1.1 = 237 then 159 else 191)
  let r3 := if 224 ≤ r1.1 then fromR s r2.2.1 r2.2.2 128 191 else r2
  let r4 := if 240 ≤ r1.1 then fromR s r3.2.1 r3.2.2 128 191 else r3
  (r4.2.1, r4.2.2)

theorem manyR_two {s : ByteArray} {k : Nat} {bad a : Int} {k1 : Nat} {bad1 : Int} {a2 : Int} {k2 : Nat} {bad2 : Int} (h1 : fromR s k bad 194 244 = (a, k1, bad1)) (ha : a < 224) (h2 : fromR s k1 bad1 128 191 = (a2, k2, bad2)) :
    manyR s k bad = (k2, bad2) := by
  simp only [manyR, h1]
  rw [if_neg (show ¬ a = 240 by omega), if_neg (show ¬ a = 224 by omega), if_neg (show ¬ a = 244 by omega), if_neg (show ¬ a = 237 by omega), if_neg (show ¬ 240 ≤ a by omega), if_neg (show ¬ 224 ≤ a by omega), h2]
theorem manyR_three {s : ByteArray} {k : Nat} {bad a : Int} {k1 : Nat} {bad1 lo hi : Int} {a2 : Int} {k2 : Nat} {bad2 : Int} {a3 : Int} {k3 : Nat} {bad3 : Int} (h1 : fromR s k bad 194 244 = (a, k1, bad1)) (ha : 224 ≤ a) (ha' : a < 240)
    (hlo : lo = if a = 240 then 144 else if a = 224 then 160 else 128) (hhi : hi = if a = 244 then 143 else if a = 237 then 159 else 191) (h2 : fromR s k1 bad1 lo hi = (a2, k2, bad2)) (h3 : fromR s k2 bad2 128 191 = (a3, k3, bad3)) :
    manyR s k bad = (k3, bad3) := by
  simp only [manyR, h1]
  rw [← hlo, ← hhi, h2, if_neg (show ¬ 240 ≤ a by omega), if_pos ha, h3]
theorem manyR_four {s : ByteArray} {k : Nat} {bad a : Int} {k1 : Nat} {bad1 lo hi : Int} {a2 : Int} {k2 : Nat} {bad2 : Int} {a3 : Int} {k3 : Nat} {bad3 : Int} {a4 : Int} {k4 : Nat} {bad4 : Int} (h1 : fromR s k bad 194 244 = (a, k1, bad1)) (ha : 240 ≤ a)
    (hlo : lo = if a = 240 then 144 else if a = 224 then 160 else 128) (hhi : hi = if a = 244 then 143 else if a = 237 then 159 else 191) (h2 : fromR s k1 bad1 lo hi = (a2, k2, bad2)) (h3 : fromR s k2 bad2 128 191 = (a3, k3, bad3)) (h4 : fromR s k3 bad3 128 191 = (a4, k4, bad4)) :
    manyR s k bad = (k4, bad4) := by
  simp only [manyR, h1]
  rw [← hlo, ← hhi, h2, if_pos ha, if_pos (show 224 ≤ a by omega)]
  simp only [h3, h4]

set_option maxHeartbeats 2000000 in
theorem many_any (b : Nat) (s : ByteArray) (k : Nat) (d bad : Int) (lg : Bool) (w : World) (hb : w.heap[b]? = some (rblk s k d bad lg)) (hs : s.size ≤ 1000) (hbad : -1 ≤ bad) :
    Calls Tryz.prog 121 #[.pointer (some ⟨b, 0, none⟩)] w fun e w' => e = .returned (.tuple #[]) ∧ But b w w' ∧ w'.heap[b]? = some (rblk s (manyR s k bad).1 d (manyR s k bad).2 lg) := by
  go_enter Tryz.func121, Tryz.ntmps121
  go_wp2_with fail
  refine (from_ex b s k d bad lg 194 244 w hb hs hbad (by omega)).mono ?_
  rintro e w1 ⟨a, k1, bad1, rfl, hbut1, hblk1, hr1, ha0, ha1, hbad1⟩
  clear hb
  rcases (show a < 224 ∨ a = 224 ∨ (224 < a ∧ a < 237) ∨ a = 237 ∨ (237 < a ∧ a < 240) ∨ a = 240 ∨ (240 < a ∧ a < 244) ∨ a = 244 ∨ 244 < a from by omega) with hx | rfl | hx | rfl | hx | rfl | hx | rfl | hx
  · go_wp2_with fail
    refine (from_ex b s k1 d bad1 lg _ _ w1 hblk1 hs hbad1 (by omega)).mono ?_
    rintro e w2 ⟨a2, k2, bad2, rfl, hbut2, hblk2, hr2, _, _, hbad2⟩
    go_wp2_with fail
    go_end0
    refine ⟨rfl, hbut1.trans hbut2, ?_⟩
    rw [manyR_two hr1.out hx hr2.out]; exact hblk2
  iterate 4
    · try obtain ⟨hx, hx'⟩ := hx
      go_wp2_with fail
      refine (from_ex b s k1 d bad1 lg _ _ w1 hblk1 hs hbad1 (by omega)).mono ?_
      rintro e w2 ⟨a2, k2, bad2, rfl, hbut2, hblk2, hr2, _, _, hbad2⟩
      go_wp2_with fail
      refine (from_ex b s k2 d bad2 lg _ _ w2 hblk2 hs hbad2 (by omega)).mono ?_
      rintro e w3 ⟨a3, k3, bad3, rfl, hbut3, hblk3, hr3, _, _, hbad3⟩
      go_wp2_with fail
      go_end0
      refine ⟨rfl, (hbut1.trans hbut2).trans hbut3, ?_⟩
      rw [manyR_three hr1.out (by omega) (by omega) (by repeat' split <;> omega) (by repeat' split <;> omega) hr2.out hr3.out]; exact hblk3
  iterate 4
    · try obtain ⟨hx, hx'⟩ := hx
      go_wp2_with fail
      refine (from_ex b s k1 d bad1 lg _ _ w1 hblk1 hs hbad1 (by omega)).mono ?_
      rintro e w2 ⟨a2, k2, bad2, rfl, hbut2, hblk2, hr2, _, _, hbad2⟩
      go_wp2_with fail
      refine (from_ex b s k2 d bad2 lg _ _ w2 hblk2 hs hbad2 (by omega)).mono ?_
      rintro e w3 ⟨a3, k3, bad3, rfl, hbut3, hblk3, hr3, _, _, hbad3⟩
      go_wp2_with fail
      refine (from_ex b s k3 d bad3 lg _ _ w3 hblk3 hs hbad3 (by omega)).mono ?_
      rintro e w4 ⟨a4, k4, bad4, rfl, hbut4, hblk4, hr4, _, _, hbad4⟩
      go_wp2_with fail
      go_end0
      refine ⟨rfl, ((hbut1.trans hbut2).trans hbut3).trans hbut4, ?_⟩
      rw [manyR_four hr1.out (by omega) (by repeat' split <;> omega) (by repeat' split <;> omega) hr2.out hr3.out hr4.out]; exact hblk4

/-- 'run' as a function of the state: the place behind the digits, or what is wrong. -/
def runR (s : ByteArray) (k : Nat) : Nat × Int := if isDig (gb s k) then (runE s k, -1) else (k, k)

set_option maxHeartbeats 2000000 in
theorem run_good (b : Nat) (s : ByteArray) (k : Nat) (d : Int) (lg : Bool) (w : World) (hb : w.heap[b]? = some (rblk s k d (-1) lg)) (hs : s.size ≤ 1000) (hd : isDig (gb s k) = true) :
    Calls Tryz.prog 123 #[.pointer (some ⟨b, 0, none⟩)] w fun e w' => e = .returned (.string (s.extract k (runE s k))) ∧ But b w w' ∧ w'.heap[b]? = some (rblk s (runE s k) d (-1) lg) := by
  have hk := isDig_lt hd
  have hdd : 48 ≤ gb s k ∧ gb s k ≤ 57 := by simpa [isDig] using hd
  obtain ⟨g0, g1, g2, g3, g4, hf⟩ := rcells hb
  have HB0 : Hid (w.heap[b]? = some (rblk s k d (-1) lg)) := hb
  have HD : Hid (isDig (gb s k) = true) := hd
  clear hb g0 g2 g3 g4 hd
  go_enter Tryz.func123, Tryz.ntmps123
  go_wp2_with (go_at_call 149; refine (from_yes b s k d (-1) lg _ _ _ (by exact HB0.out) (by rw [cv_good]; omega) (by rw [cv_good]; omega) (by omega)).mono ?_; rintro e w1 ⟨rfl, hbut1, hblk1⟩)
  go_loopg [] (s.size - (k + 1)) (fun g wr => ∃ j : Nat, k < j ∧ j ≤ s.size ∧ g = s.size - j ∧ runE s j = runE s k ∧ But b w wr ∧ wr.heap[b]? = some (rblk s j d (-1) lg))
  case atStart => exact ⟨k + 1, by omega, by omega, rfl, (runE_dig HD.out).symm, hbut1, hblk1⟩
  case round =>
    obtain ⟨j, hkj, hjs, hg, hsk, hbut, hb1⟩ := hrel
    obtain ⟨g0, g1', g2, g3, g4, hf'⟩ := rcells hb1
    have HB : Hid (wr.heap[b]? = some (rblk s j d (-1) lg)) := hb1
    have HG : Hid (gk = s.size - j) := hg
    have HS : Hid (runE s j = runE s k) := hsk
    obtain ⟨c, hc⟩ : ∃ c, c = gb s j := ⟨_, rfl⟩
    have hcb := gb_bd s j
    rw [← hc] at hcb
    have HC : Hid (c = gb s j) := hc
    clear hb1 hg hsk hc g1 hf hblk1
    by_cases hy : 48 ≤ c ∧ c ≤ 57
    · obtain ⟨hy1, hy2⟩ := hy
      have hj : j < s.size := lt_of_gb (by rw [← HC.out]; omega)
      have HN : Hid (runE s (j + 1) = runE s k) := by
        show _ = _
        rw [← HS.out]; exact (runE_dig (by rw [← HC.out]; simp [isDig]; omega)).symm
      go_wp2_with (go_at_call 79; refine (c_any b s j d (-1) lg _ (by exact HB.out)).mono ?_; rintro e w' ⟨rfl, n, rfl⟩; rw [cv_good, ← HC.out])
      go_roundg (s.size - (j + 1))
      case measure => rw [HG.out]; omega
      case rel => exact ⟨j + 1, by omega, by omega, rfl, HN.out, (hbut.drewN _).setCell _ _, rset_at (w := wr.drewN _) HB.out (j + 1) (by omega)⟩
    · have HN : Hid (runE s k = j) := by
        show _ = _
        rw [← HS.out]; exact runE_no (by rw [← HC.out]; simp [isDig]; omega)
      rcases (show c < 48 ∨ 57 < c from by omega) with hy1 | hy1
      all_goals
        clear hy
        go_wp2_with (go_at_call 79; refine (c_any b s j d (-1) lg _ (by exact HB.out)).mono ?_; rintro e w' ⟨rfl, n, rfl⟩; rw [cv_good, ← HC.out])
        go_quiet (fail)
        go_wp2
        go_ret
        exact ⟨congrArg (fun x => Ending.returned (.string (s.extract k x))) HN.out.symm, (hbut.drewN _).drewN _, by rw [HN.out]; exact HB.out⟩

end Go.Proofs.YtjaoocincdoaaaaGreatDoor

namespace Go.Proofs.YtjaoocincdoaaaaGreatDoor
open Go.RowKit J

set_option linter.unusedVariables false

/-- 'escape' as a function of the state. -/
def escR (s : ByteArray) (k : Nat) (bad : Int) : Int × Nat × Int :=
  let r1 := hexR s k bad 0 15
  let r2 := hexR s r1.2.1 r1.2.2 0 (if r1.1 = 13 then 11 else 15)
  let r3 := hexR s r2.2.1 r2.2.2 0 15
  let r4 := hexR s r3.2.1 r3.2.2 0 15
  let n := ((r1.1 * 16 + r2.1) * 16 + r3.1) * 16 + r4.1
  if r1.1 ≠ 13 ∨ r2.1 < 8 then (n, r4.2.1, r4.2.2) else
  let r5 := wordR s r4.2.1 r4.2.2 [92, 117]
  let r6 := hexR s r5.1 r5.2 13 13
  let r7 := hexR s r6.2.1 r6.2.2 12 15
  let r8 := hexR s r7.2.1 r7.2.2 0 15
  let r9 := hexR s r8.2.1 r8.2.2 0 15
  (65536 + (n - 55296) * 1024 + (r7.1 - 12) * 256 + r8.1 * 16 + r9.1, r9.2.1, r9.2.2)

theorem escR_one {s : ByteArray} {k : Nat} {bad a b c d m : Int} {k1 k2 k3 k4 : Nat} {b1 b2 b3 b4 : Int} (h1 : hexR s k bad 0 15 = (a, k1, b1)) (hm : m = if a = 13 then 11 else 15) (h2 : hexR s k1 b1 0 m = (b, k2, b2)) (h3 : hexR s k2 b2 0 15 = (c, k3, b3)) (h4 : hexR s k3 b3 0 15 = (d, k4, b4))
    (hn : a ≠ 13 ∨ b < 8) : escR s k bad = (((a * 16 + b) * 16 + c) * 16 + d, k4, b4) := by
  simp only [escR, h1, ← hm, h2, h3, h4]
  rw [if_pos hn]
theorem escR_two {s : ByteArray} {k : Nat} {bad a b c d m x e f g : Int} {k1 k2 k3 k4 k5 k6 k7 k8 k9 : Nat} {b1 b2 b3 b4 b5 b6 b7 b8 b9 : Int} (h1 : hexR s k bad 0 15 = (a, k1, b1)) (hm : m = if a = 13 then 11 else 15) (h2 : hexR s k1 b1 0 m = (b, k2, b2)) (h3 : hexR s k2 b2 0 15 = (c, k3, b3)) (h4 : hexR s k3 b3 0 15 = (d, k4, b4))
    (ha : a = 13) (hb : 8 ≤ b) (h5 : wordR s k4 b4 [92, 117] = (k5, b5)) (h6 : hexR s k5 b5 13 13 = (x, k6, b6)) (h7 : hexR s k6 b6 12 15 = (e, k7, b7)) (h8 : hexR s k7 b7 0 15 = (f, k8, b8)) (h9 : hexR s k8 b8 0 15 = (g, k9, b9)) :
    escR s k bad = (65536 + (((a * 16 + b) * 16 + c) * 16 + d - 55296) * 1024 + (e - 12) * 256 + f * 16 + g, k9, b9) := by
  simp only [escR, h1, ← hm, h2, h3, h4]
  rw [if_neg (by omega)]
  simp only [h5, h6, h7, h8, h9]

set_option maxHeartbeats 2000000 in
theorem escape_any (b : Nat) (s : ByteArray) (k : Nat) (d bad : Int) (lg : Bool) (w : World) (hb : w.heap[b]? = some (rblk s k d bad lg)) (hs : s.size ≤ 1000) (hbad : -1 ≤ bad) :
    Calls Tryz.prog 150 #[.pointer (some ⟨b, 0, none⟩)] w fun e w' => e = .returned (.int .i64 (escR s k bad).1) ∧ But b w w' ∧ w'.heap[b]? = some (rblk s (escR s k bad).2.1 d (escR s k bad).2.2 lg) := by
  go_enter Tryz.func150, Tryz.ntmps150
  go_wp2_with fail
  refine (hex_ex b s k d bad lg 0 15 w hb hs hbad).mono ?_
  rintro e w1 ⟨a, k1, bad1, rfl, hbut1, hblk1, hr1, ha0, ha1, hbad1⟩
  clear hb
  rcases (show a = 13 ∨ a < 13 ∨ 13 < a from by omega) with rfl | ha | ha
  · go_wp2_with fail
    refine (hex_ex b s k1 d bad1 lg _ _ w1 hblk1 hs hbad1).mono ?_
    rintro e w2 ⟨a2, k2, bad2, rfl, hbut2, hblk2, hr2, ha20, ha21, hbad2⟩
    go_wp2_with fail
    refine (hex_ex b s k2 d bad2 lg _ _ w2 hblk2 hs hbad2).mono ?_
    rintro e w3 ⟨a3, k3, bad3, rfl, hbut3, hblk3, hr3, ha30, ha31, hbad3⟩
    go_wp2_with fail
    refine (hex_ex b s k3 d bad3 lg _ _ w3 hblk3 hs hbad3).mono ?_
    rintro e w4 ⟨a4, k4, bad4, rfl, hbut4, hblk4, hr4, ha40, ha41, hbad4⟩
    by_cases h8 : a2 < 8
    · have HF : Hid (escR s k bad = (((13 * 16 + a2) * 16 + a3) * 16 + a4, k4, bad4)) := escR_one hr1.out rfl hr2.out hr3.out hr4.out (Or.inr h8)
      have hbut := ((hbut1.trans hbut2).trans hbut3).trans hbut4
      go_wp2_with fail
      go_ret
      exact ⟨ret_i (by rw [HF.out]; try rfl), hbut, by rw [HF.out]; exact hblk4⟩
    · go_wp2_with fail
      refine (word_ex b s _ k4 d bad4 lg w4 hblk4 hs hbad4 (by decide)).mono ?_
      rintro e w5 ⟨k5, bad5, rfl, hbut5, hblk5, hr5, hbad5⟩
      go_wp2_with fail
      refine (hex_ex b s k5 d bad5 lg _ _ w5 hblk5 hs hbad5).mono ?_
      rintro e w6 ⟨a6, k6, bad6, rfl, hbut6, hblk6, hr6, ha60, ha61, hbad6⟩
      go_wp2_with fail
      refine (hex_ex b s k6 d bad6 lg _ _ w6 hblk6 hs hbad6).mono ?_
      rintro e w7 ⟨a7, k7, bad7, rfl, hbut7, hblk7, hr7, ha70, ha71, hbad7⟩
      go_wp2_with fail
      refine (hex_ex b s k7 d bad7 lg _ _ w7 hblk7 hs hbad7).mono ?_
      rintro e w8 ⟨a8, k8, bad8, rfl, hbut8, hblk8, hr8, ha80, ha81, hbad8⟩
      go_wp2_with fail
      refine (hex_ex b s k8 d bad8 lg _ _ w8 hblk8 hs hbad8).mono ?_
      rintro e w9 ⟨a9, k9, bad9, rfl, hbut9, hblk9, hr9, ha90, ha91, hbad9⟩
      have HF : Hid (escR s k bad = (65536 + (((13 * 16 + a2) * 16 + a3) * 16 + a4 - 55296) * 1024 + (a7 - 12) * 256 + a8 * 16 + a9, k9, bad9)) := escR_two hr1.out rfl hr2.out hr3.out hr4.out rfl (by omega) hr5.out hr6.out hr7.out hr8.out hr9.out
      have hbut := ((((((((hbut1.trans hbut2).trans hbut3).trans hbut4).trans hbut5).trans hbut6).trans hbut7).trans hbut8).trans hbut9)
      go_wp2_with fail
      go_ret
      exact ⟨ret_i (by rw [HF.out]; try rfl), hbut, by rw [HF.out]; exact hblk9⟩
  all_goals
    go_wp2_with fail
    refine (hex_ex b s k1 d bad1 lg _ _ w1 hblk1 hs hbad1).mono ?_
    rintro e w2 ⟨a2, k2, bad2, rfl, hbut2, hblk2, hr2, ha20, ha21, hbad2⟩
    go_wp2_with fail
    refine (hex_ex b s k2 d bad2 lg _ _ w2 hblk2 hs hbad2).mono ?_
    rintro e w3 ⟨a3, k3, bad3, rfl, hbut3, hblk3, hr3, ha30, ha31, hbad3⟩
    go_wp2_with fail
    refine (hex_ex b s k3 d bad3 lg _ _ w3 hblk3 hs hbad3).mono ?_
    rintro e w4 ⟨a4, k4, bad4, rfl, hbut4, hblk4, hr4, ha40, ha41, hbad4⟩
    have HF : Hid (escR s k bad = (((a * 16 + a2) * 16 + a3) * 16 + a4, k4, bad4)) := escR_one hr1.out (by rw [if_neg (by omega)]) hr2.out hr3.out hr4.out (Or.inl (by omega))
    have hbut := ((hbut1.trans hbut2).trans hbut3).trans hbut4
    have hne : (a != 13) = true := by rw [bne_iff_ne]; omega
    go_wp2_with fail
    go_ret
    exact ⟨ret_i (by rw [HF.out]; try rfl), hbut, by rw [HF.out]; exact hblk4⟩

end Go.Proofs.YtjaoocincdoaaaaGreatDoor
