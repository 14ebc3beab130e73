/- The document's values in memory: 'put'. The document's values in memory: what a pointer stands for. The document's reader: a value, out of what a bracket does. The document's reader: a list. -/
import Derived.Test.YtjaoocincdoaaaaGreatDoorA03
import Derived.Deep.RegionHeld
namespace Go.Proofs.YtjaoocincdoaaaaGreatDoor
open Go.RowKit J

set_option linter.unusedVariables false

theorem putP_found {K α : Type} [DecidableEq K] : ∀ (ks : List K) (ps : List α) (k : K) (x : α) (i : Nat), ks.length = ps.length → (∀ j, j < i → ks[j]? ≠ some k) → ks[i]? = some k → putP ks ps k x = ps.set i x ∧ putK ks k = ks
  | [], ps, k, x, i, _, _, h => by simp at h
  | k' :: ks, [], k, x, i, hl, _, h => by simp at hl
  | k' :: ks, p :: ps, k, x, 0, hl, hn, h => by simp at h; simp [putP, putK, h]
  | k' :: ks, p :: ps, k, x, i + 1, hl, hn, h => by
    have h0 : k' ≠ k := by have := hn 0 (by omega); simpa using this
    have ih := putP_found ks ps k x i (by simpa using hl) (fun j hj => by have := hn (j + 1) (by omega); simpa using this) (by simpa using h)
    simp [putP, putK, h0, ih.1, ih.2]
theorem putP_none {K α : Type} [DecidableEq K] : ∀ (ks : List K) (ps : List α) (k : K) (x : α), ks.length = ps.length → (∀ j, j < ks.length → ks[j]? ≠ some k) → putP ks ps k x = ps ++ [x] ∧ putK ks k = ks ++ [k]
  | [], ps, k, x, _, _ => by simp [putP, putK]
  | k' :: ks, [], k, x, hl, _ => by simp at hl
  | k' :: ks, p :: ps, k, x, hl, hn => by
    have h0 : k' ≠ k := by have := hn 0 (by simp); simpa using this
    have ih := putP_none ks ps k x (by simpa using hl) (fun j hj => by have := hn (j + 1) (by simp; omega); simpa using this)
    simp [putP, putK, h0, ih.1, ih.2]

/-- Keys as cells. -/
def kv (ks : List ByteArray) : List Value := ks.map Value.string

/-- What p points to is a value of the document's answer. -/
def Some1 (w : World) (p : Value) : Prop := ∃ m kind n s l ks wt, p = .pointer (some ⟨m, 0, none⟩) ∧ w.heap[m]? = some (vblk kind n s l ks wt)

theorem Row.get {w : World} {e : TypeId} {g n cap : Nat} {xs : List Value} (h : Row w e (.slice (some ⟨g, 0, none⟩) n cap) xs) {i : Nat} {u : Value} (hu : xs[i]? = some u) : w.cell? ⟨g, i, none⟩ = some u := by
  have := World.ownsRow.cells h (g := g) rfl i u hu
  rw [Addr.add_lit] at this
  simpa using this
theorem Row.free {w : World} {e : TypeId} {g n cap : Nat} {xs : List Value} (h : Row w e (.slice (some ⟨g, 0, none⟩) n cap) xs) : ∀ o, w.frozen? ⟨g, o, none⟩ = false := by
  rcases h.2 with ⟨h2, _⟩ | ⟨g', cap', cur, h2, h0, hg, r⟩
  · cases h2
  · injection h2 with h3 h4 h5
    injection h3 with h3
    injection h3 with h3
    subst h3
    intro o; simp [World.frozen?, hg]
theorem Row.len {w : World} {e : TypeId} {v : Value} {xs : List Value} (h : Row w e v xs) : (v = .slice none 0 0 ∧ xs = []) ∨ ∃ g cap, v = .slice (some ⟨g, 0, none⟩) xs.length cap ∧ xs.length ≤ cap := by
  rcases h.2 with ⟨h2, h3⟩ | ⟨g', cap', cur, h2, h0, hg, hc, r⟩
  · exact Or.inl ⟨h2, List.eq_nil_of_length_eq_zero h3⟩
  · exact Or.inr ⟨g', cap', h2, hc⟩
theorem Row.set {w : World} {e : TypeId} {g n cap : Nat} {xs : List Value} (h : Row w e (.slice (some ⟨g, 0, none⟩) n cap) xs) (i : Nat) (hi : i < xs.length) (u : Value) : Row (w.setCell ⟨g, i, none⟩ u) e (.slice (some ⟨g, 0, none⟩) n cap) (xs.set i u) := by
  have hx := h
  unfold Row at h ⊢
  rw [List.length_set]
  refine ⟨by rw [List.length_set]; exact h.1, ?_⟩
  rcases h.2 with ⟨h2, _⟩ | ⟨g', cap', cur, h2, h0, hg, hc, hm, hsz, htk⟩
  · cases h2
  · injection h2 with h3 h4 h5
    injection h3 with h3
    injection h3 with h3
    subst h3
    refine Or.inr ⟨g, cap', cur.setIfInBounds i u, by rw [h4, h5], h0, heap_setCell_at hg u, hc, hm, by simpa using hsz, ?_⟩
    rw [Array.toList_setIfInBounds, List.take_set, htk]

theorem str_ne {a b : ByteArray} (h : a ≠ b) : (a.toList == b.toList) = false := by
  rw [beq_eq_false_iff_ne]
  intro e
  apply h
  rw [Go.ByteArray.toList_eq, Go.ByteArray.toList_eq] at e
  exact ByteArray.ext (Array.toList_inj.1 e)
theorem str_eq {a b : ByteArray} (h : a = b) : (a.toList == b.toList) = true := by subst h; simp

set_option maxRecDepth 100000 in
set_option maxHeartbeats 4000000 in
theorem put_found (mb m2 : Nat) (kind n : Int) (s : ByteArray) (l ksl : Value) (wt : Int) (kind2 n2 : Int) (s2 : ByteArray) (l2 ks2 : Value) (wt2 : Int) (ps : List Value) (ks : List ByteArray) (key : ByteArray) (i0 : Nat) (w : World)
    (hb : w.heap[mb]? = some (vblk kind n s l ksl wt)) (hx : w.heap[m2]? = some (vblk kind2 n2 s2 l2 ks2 wt2)) (hne : m2 ≠ mb) (hrow : Row w 46 l ps) (hrk : Row w 9 ksl (kv ks)) (hlen : ks.length = ps.length)
    (hr : ∀ g, l.ownBlock = some g → g ≠ mb ∧ g ≠ m2 ∧ ksl.ownBlock ≠ some g) (hrks : ∀ g, ksl.ownBlock = some g → g ≠ mb ∧ g ≠ m2) (hps : ps.length ≤ 2000) (hall : ∀ p ∈ ps, Some1 w p)
    (hno : ∀ j, j < i0 → ks[j]? ≠ some key) (hyes : ks[i0]? = some key) :
    Calls Tryz.prog 120 #[.pointer (some ⟨mb, 0, none⟩), .string key, .pointer (some ⟨m2, 0, none⟩)] w fun e w' => e = .returned (.tuple #[]) ∧ ∃ wt', w'.heap[mb]? = some (vblk kind n s l ksl wt') ∧ Row w' 46 l (ps.set i0 (.pointer (some ⟨m2, 0, none⟩))) ∧ Row w' 9 ksl (kv ks) ∧
      Chg (fun k => k = mb ∨ l.ownBlock = some k) w w' := by
  obtain ⟨g0, g1, g2, g3, g4, g5, hf⟩ := vcells hb
  obtain ⟨q0, q1, q2, q3, q4, q5, qf⟩ := vcells hx
  have hi0 : i0 < ks.length := (List.getElem?_eq_some_iff.1 hyes).1
  rcases hrk.len with ⟨rfl, hnil⟩ | ⟨gy, capk, rfl, hck⟩
  · simp [kv] at hnil; subst hnil; simp at hi0
  rcases hrow.len with ⟨rfl, hnil⟩ | ⟨gl, capl, rfl, hcl⟩
  · subst hnil; rw [hlen] at hi0; simp at hi0
  obtain ⟨pi, hpi⟩ : ∃ pi, ps[i0]? = some pi := ⟨ps[i0]'(by omega), List.getElem?_eq_getElem (by omega)⟩
  obtain ⟨mi, ki, ni, si, li, ksi, wi, rfl, hmi⟩ := hall pi (List.mem_of_getElem? hpi)
  obtain ⟨p0, p1, p2, p3, p4, p5, pf⟩ := vcells hmi
  have hcell := hrow.get hpi
  have hkc : ∀ j k', ks[j]? = some k' → w.cell? ⟨gy, j, none⟩ = some (.string k') := fun j k' h => hrk.get (by simp [kv, h])
  have hkl : (kv ks).length = ks.length := by simp [kv]
  rw [hkl] at g4 hck
  have HB : Hid (w.heap[mb]? = some (vblk kind n s (.slice (some ⟨gl, 0, none⟩) ps.length capl) (.slice (some ⟨gy, 0, none⟩) ks.length capk) wt)) := by rw [hkl] at hb; exact hb
  have HR := hr
  go_enter Tryz.func120, Tryz.ntmps120
  go_wp2_with fail
  go_loopg [6] (i0 + 1) (fun g iv wr => w = wr ∧ ∃ x : Nat, x ≤ i0 ∧ g = i0 + 1 - x ∧ iv = .int .i64 x)
  case atStart => exact ⟨rfl, 0, by omega, by omega, rfl⟩
  case round =>
    obtain ⟨rfl, x, hx0, hg, rfl⟩ := hrel
    have HG : Hid (gk = i0 + 1 - x) := hg
    have hxl : x < ks.length := by omega
    obtain ⟨kx, hkx⟩ : ∃ kx, ks[x]? = some kx := ⟨ks[x]'hxl, List.getElem?_eq_getElem hxl⟩
    have hcx := hkc x kx hkx
    have hfl := hrow.free
    have HRow : Hid (Row w 46 (.slice (some ⟨gl, 0, none⟩) ps.length capl) ps) := hrow
    have HRk : Hid (Row w 9 (.slice (some ⟨gy, 0, none⟩) (kv ks).length capk) (kv ks)) := hrk
    have HRR : Hid (gl ≠ mb ∧ gl ≠ m2 ∧ gy ≠ gl) := ⟨(hr gl rfl).1, (hr gl rfl).2.1, fun e => (hr gl rfl).2.2 (by rw [e]; rfl)⟩
    have HRY : Hid (gy ≠ mb) := (hrks gy rfl).1
    clear hkc qf pf g0 g1 g2 q0 q1 q2 q3 q4 p0 p1 p2 p3 p4 hb hx hmi hkl hr hrks hrow hrk hall hg hpi
    by_cases hxi : x < i0
    · have hne2 := str_ne (show kx ≠ key by intro e; apply hno x hxi; rw [hkx, e])
      clear hno hyes hkx hcell p5 q5 g3 g5
      go_wp2
      go_roundg (i0 + 1 - (x + 1))
      case measure => rw [HG.out]; omega
      case rel => exact ⟨rfl, x + 1, by omega, rfl, by go_num⟩
    · have hxe : x = i0 := by omega
      subst hxe
      have hkk : kx = key := by rw [hyes] at hkx; injection hkx with h; exact h.symm
      have heq := str_eq hkk
      have HL : Hid (ks.length = ps.length) := hlen
      have hxp : x < ps.length := by omega
      have hglm : gl ≠ mb := HRR.out.1
      have hglm' : mb ≠ gl := fun e => HRR.out.1 e.symm
      clear hno hyes hkx hkk hlen hxi
      go_wp2
      go_region
      all_goals
        go_wp2
        refine bodyPost_ret (results_none rfl _ _ _) rfl ⟨rfl, ?_⟩
        have hr1 : Row (w.setCell ⟨mb, 5, none⟩ (.int .i64 (wrap64 (wrap64 (wt - wi) + wt2)))) 46 (.slice (some ⟨gl, 0, none⟩) ps.length capl) ps :=
          Row.kept (S := fun k => k = mb) HRow.out ((Chg.refl (fun k => k = mb) w).setCell (b := mb) rfl _ _) (by intro k hk; simp [Value.ownBlock] at hk; omega)
        refine ⟨wrap64 (wrap64 (wt - wi) + wt2), ?_, hr1.set x hxp _, ?_, ?_⟩
        · show ((w.setCell ⟨mb, 5, none⟩ _).setCell ⟨gl, x, none⟩ _).heap[mb]? = _
          rw [show (kv ks).length = ks.length by simp [kv]]
          exact heap_set_other (vset_w HB.out _) hglm' _
        · refine Row.kept (S := fun k => k = mb ∨ k = gl) HRk.out (((Chg.refl (fun k => k = mb ∨ k = gl) w).setCell (b := mb) (Or.inl rfl) _ _).setCell (b := gl) (Or.inr rfl) _ _).drew ?_
          intro k hk; simp [Value.ownBlock] at hk; have := HRR.out.2.2; have := HRY.out; omega
        · exact (((Chg.refl _ w).setCell (b := mb) (Or.inl rfl) _ _).setCell (b := gl) (Or.inr rfl) _ _).drew

set_option maxRecDepth 100000 in
set_option maxHeartbeats 4000000 in
theorem put_none (mb m2 : Nat) (kind n : Int) (s : ByteArray) (l ksl : Value) (wt : Int) (kind2 n2 : Int) (s2 : ByteArray) (l2 ks2 : Value) (wt2 : Int) (ps : List Value) (ks : List ByteArray) (key : ByteArray) (w : World)
    (hb : w.heap[mb]? = some (vblk kind n s l ksl wt)) (hx : w.heap[m2]? = some (vblk kind2 n2 s2 l2 ks2 wt2)) (hne : m2 ≠ mb) (hrow : Row w 46 l ps) (hrk : Row w 9 ksl (kv ks)) (hlen : ks.length = ps.length)
    (hr : ∀ g, l.ownBlock = some g → g ≠ mb ∧ g ≠ m2 ∧ ksl.ownBlock ≠ some g) (hrks : ∀ g, ksl.ownBlock = some g → g ≠ mb ∧ g ≠ m2) (hps : ps.length ≤ 2000) (hkey : key.size ≤ 100000)
    (hno : ∀ j, j < ks.length → ks[j]? ≠ some key) :
    Calls Tryz.prog 120 #[.pointer (some ⟨mb, 0, none⟩), .string key, .pointer (some ⟨m2, 0, none⟩)] w fun e w' => e = .returned (.tuple #[]) ∧ ∃ l' ksl' wt', w'.heap[mb]? = some (vblk kind n s l' ksl' wt') ∧ Row w' 46 l' (ps ++ [.pointer (some ⟨m2, 0, none⟩)]) ∧ Row w' 9 ksl' (kv (ks ++ [key])) ∧
      (∀ g, l'.ownBlock = some g → (l.ownBlock = some g ∨ w.heap.size ≤ g) ∧ ksl'.ownBlock ≠ some g) ∧ (∀ g, ksl'.ownBlock = some g → ksl.ownBlock = some g ∨ w.heap.size ≤ g) ∧ Chg (fun k => k = mb ∨ l.ownBlock = some k ∨ ksl.ownBlock = some k) w w' := by
  obtain ⟨g0, g1, g2, g3, g4, g5, hf⟩ := vcells hb
  have hkl : (kv ks).length = ks.length := by simp [kv]
  have HB : Hid (w.heap[mb]? = some (vblk kind n s l ksl wt)) := hb
  have HX : Hid (w.heap[m2]? = some (vblk kind2 n2 s2 l2 ks2 wt2)) := hx
  have HRow : Hid (Row w 46 l ps) := hrow
  have HRk : Hid (Row w 9 ksl (kv ks)) := hrk
  have HR : Hid (∀ g, l.ownBlock = some g → g ≠ mb ∧ g ≠ m2 ∧ ksl.ownBlock ≠ some g) := hr
  have HRY : Hid (∀ g, ksl.ownBlock = some g → g ≠ mb ∧ g ≠ m2) := hrks
  have HL : Hid (ks.length = ps.length) := hlen
  have hmb := lt_of_heap hb
  have hm2 := lt_of_heap hx
  have hks : ks.length ≤ 2000 := by omega
  have hform : (ksl = .slice none 0 0 ∧ ks = []) ∨ ∃ gy capk, ksl = .slice (some ⟨gy, 0, none⟩) ks.length capk ∧ ∀ j k', ks[j]? = some k' → w.cell? ⟨gy, j, none⟩ = some (.string k') := by
    rcases hrk.len with ⟨h1, h2⟩ | ⟨gy, capk, h1, h2⟩
    · exact Or.inl ⟨h1, by simpa [kv] using h2⟩
    · right
      refine ⟨gy, capk, by rw [h1, hkl], ?_⟩
      intro j k' h
      rw [h1] at hrk
      exact hrk.get (by simp [kv, h])
  have HForm : Hid _ := hform
  clear hb hx hrow hrk hr hrks hlen g0 g1 g2 hform hkl
  go_enter Tryz.func120, Tryz.ntmps120
  go_wp2_with fail
  go_loopg [6] (ks.length + 1) (fun g iv wr => w = wr ∧ ∃ x : Nat, x ≤ ks.length ∧ g = ks.length + 1 - x ∧ iv = .int .i64 x)
  case atStart => exact ⟨rfl, 0, by omega, by omega, rfl⟩
  case round =>
    obtain ⟨rfl, x, hx0, hg, rfl⟩ := hrel
    have HG : Hid (gk = ks.length + 1 - x) := hg
    clear hg
    by_cases hxl : x < ks.length
    · obtain ⟨kx, hkx⟩ : ∃ kx, ks[x]? = some kx := ⟨ks[x]'hxl, List.getElem?_eq_getElem hxl⟩
      rcases HForm.out with ⟨_, h2⟩ | ⟨gy, capk, h1, h2⟩
      · subst h2; simp at hxl
      · have hcx := h2 x kx hkx
        rw [h1] at g4
        have hne2 := str_ne (show kx ≠ key by intro e; apply hno x hxl; rw [hkx, e])
        clear hno hkx g3 g5 h1 h2
        go_wp2
        go_roundg (ks.length + 1 - (x + 1))
        case measure => rw [HG.out]; omega
        case rel => exact ⟨rfl, x + 1, by omega, rfl, by go_num⟩
    · have hxe : x = ks.length := by omega
      subst hxe
      clear hxl hno
      rcases HForm.out with ⟨rfl, h2⟩ | ⟨gy, capk, rfl, h2⟩
      all_goals
        clear h2 HForm
        go_wp2_with (at_builtin; refine app_one rfl (.tmp 59) (.tmp 61) 120 9 rfl (.string ⟨#[]⟩) 16 info_str rfl Tryz.underlying120 (by decide) _ _ rfl (World.ownsRow.alloc HRk.out _) _ _ (.string key) rfl ?h2 rfl ?h3 _ rfl ?_)
        case h2 => exact cell_new rfl
        case h3 => simp [kv]; omega
        intro g1 cap1 w2 hrow2 hgr hat hlt
        have hkl : (kv ks).length = ks.length := by simp [kv]
        rw [hkl] at hrow2
        have hmb2 := (hgr.block mb (by simp; omega) (by intro e; exact (HRY.out mb e.symm).1 rfl)).trans (heap_old HB.out)
        have hm22 := (hgr.block m2 (by simp; omega) (by intro e; exact (HRY.out m2 e.symm).2 rfl)).trans (heap_old HX.out)
        have hchg2 := ((Chg.refl _ w).alloc (.cells #[.string key] 9)).trans (Chg.of_grown hgr)
        have hsz2 : w.heap.size + 1 ≤ w2.heap.size := by have := hgr.size; simpa using this
        have hg1 : g1 ≠ mb ∧ g1 ≠ m2 ∧ l.ownBlock ≠ some g1 := by
          rcases hat with h | h
          · exact ⟨(HRY.out g1 h).1, (HRY.out g1 h).2, fun e => (HR.out g1 e).2.2 h⟩
          · have h' : g1 = w.heap.size + 1 := h
            exact ⟨by omega, by omega, fun e => by have := HRow.out.lt e; omega⟩
        have HG1 : Hid (g1 ≠ mb ∧ g1 ≠ m2 ∧ l.ownBlock ≠ some g1) := hg1
        have hrl : Row w2 46 l ps := HRow.out.kept hchg2 (fun k hk h => (HR.out k hk).2.2 h)
        obtain ⟨a0, a1, a2, a3, a4, a5, af⟩ := vcells hmb2
        obtain ⟨b0, b1, b2, b3, b4, b5, bf⟩ := vcells hm22
        have HAT : Hid _ := hat
        have HC2 : Hid _ := hchg2
        have HGL : Hid (g1 < w2.heap.size) := hlt
        have HW2 : Hid _ := hrow2
        have hrl3 : Row (w2.setCell ⟨mb, 4, none⟩ (.slice (some ⟨g1, 0, none⟩) (ks.length + 1) cap1)) 46 l ps := Row.kept (S := fun k => k = mb) hrl ((Chg.refl (fun k => k = mb) w2).setCell (b := mb) rfl _ _) (fun k hk => (HR.out k hk).1)
        have HMM : Hid (w2.heap[mb]? = _) := hmb2
        have HM22 : Hid (w2.heap[m2]? = _) := hm22
        clear hgr hat hchg2 hlt hrow2 hg1 g3 g4 g5 hf a0 a1 a2 b0 b1 b2 b3 b4 bf hmb2 hm22
        go_wp2_with (at_builtin; refine app_one rfl (.tmp 69) (.tmp 71) 119 46 rfl (.pointer none) 8 info_ptr rfl Tryz.underlying119 (by decide) l ps rfl ?k1 _ _ (.pointer (some ⟨m2, 0, none⟩)) rfl ?k2 rfl ?k3 _ rfl ?_)
        case k1 => exact World.ownsRow.alloc hrl3 _
        case k2 => exact cell_new (by simp [World.setCell])
        case k3 => omega
        intro g3 cap3 w4 hrow4 hgr4 hat4 hlt4
        have hmb4 := (hgr4.block mb (by simp [World.setCell]; omega) (by intro e; exact (HR.out mb e.symm).1 rfl)).trans (heap_old (vset_k HMM.out _))
        have hm24 := (hgr4.block m2 (by simp [World.setCell]; omega) (by intro e; exact (HR.out m2 e.symm).2.1 rfl)).trans (heap_old (heap_set_other HM22.out hne _))
        have hchg4 := ((Chg.refl (fun k => k = mb ∨ l.ownBlock = some k) w2).setCell (b := mb) (Or.inl rfl) 4 (.slice (some ⟨g1, 0, none⟩) (ks.length + 1) cap1)).alloc (.cells #[.pointer (some ⟨m2, 0, none⟩)] 46)
        have hchg4 := hchg4.trans ((Chg.of_grown hgr4).mono (fun i _ h => Or.inr h))
        have hrk4 : Row w4 9 (.slice (some ⟨g1, 0, none⟩) (ks.length + 1) cap1) (kv ks ++ [.string key]) := Row.kept HW2.out hchg4 (by
          intro k hk h; simp [Value.ownBlock] at hk; subst hk
          rcases h with h | h
          · exact HG1.out.1 h
          · exact HG1.out.2.2 h)
        have HAT4 : Hid _ := hat4
        have HC4 : Hid _ := hchg4
        have HW4 : Hid _ := hrow4
        have HK4 : Hid _ := hrk4
        have HMM4 : Hid _ := hmb4
        obtain ⟨c0, c1, c2, c3, c4, c5, cf⟩ := vcells hmb4
        obtain ⟨d0, d1, d2, d3, d4, d5, df⟩ := vcells hm24
        clear hgr4 hat4 hchg4 hrow4 hrk4 hlt4 a3 a4 a5 af b5 hrl hrl3 hmb4 hm24 c0 c1 c2 c4 d0 d1 d2 d3 d4 df
        go_wp2
        go_region
        all_goals
          go_wp2
          go_end0
          have hg3 : l.ownBlock = some g3 ∨ g3 = w2.heap.size + 1 := by
            rcases HAT4.out with h | h
            · exact Or.inl h
            · right; rw [h]
          have hg3m : g3 ≠ mb := by
            rcases hg3 with h | h
            · exact (HR.out g3 h).1
            · omega
          have hg13 : g1 ≠ g3 := by
            rcases hg3 with h | h
            · intro e; subst e; exact HG1.out.2.2 h
            · have := HGL.out; omega
          have hcs : Chg (fun k => k = mb) w4 (((w4.setCell ⟨mb, 3, none⟩ (.slice (some ⟨g3, 0, none⟩) (ps.length + 1) cap3)).setCell ⟨mb, 5, none⟩ (.int .i64 (wrap64 (wrap64 (wt + ↑key.size) + wt2)))).drew) :=
            (((Chg.refl (fun k => k = mb) w4).setCell (b := mb) rfl _ _).setCell (b := mb) rfl _ _).drew
          refine ⟨rfl, .slice (some ⟨g3, 0, none⟩) (ps.length + 1) cap3, .slice (some ⟨g1, 0, none⟩) (ks.length + 1) cap1, _, vset_w (vset_l HMM4.out _) _, ?_, ?_, ?_, ?_, ?_⟩
          · exact Row.kept HW4.out hcs (by intro k hk; simp [Value.ownBlock] at hk; omega)
          · have : kv (ks ++ [key]) = kv ks ++ [.string key] := by simp [kv]
            rw [this]
            exact Row.kept HK4.out hcs (by intro k hk; simp [Value.ownBlock] at hk; have := HG1.out.1; omega)
          · intro g hg
            simp [Value.ownBlock] at hg
            subst hg
            refine ⟨?_, by simp [Value.ownBlock]; exact hg13⟩
            rcases hg3 with h | h
            · exact Or.inl h
            · right; omega
          · intro g hg
            simp [Value.ownBlock] at hg
            subst hg
            rcases HAT.out with h | h
            · exact Or.inl h
            · right; have h' : g1 = w.heap.size + 1 := h; omega
          · refine (HC2.out.mono ?_).trans ((HC4.out.mono ?_).trans (hcs.mono ?_))
            · intro i _ h; exact Or.inr (Or.inr h)
            · intro i _ h; rcases h with h | h
              · exact Or.inl h
              · exact Or.inr (Or.inl h)
            · intro i _ h; exact Or.inl h

end Go.Proofs.YtjaoocincdoaaaaGreatDoor

namespace Go.Proofs.YtjaoocincdoaaaaGreatDoor
open Go.RowKit J

set_option linter.unusedVariables false

def lfBlk (l : Lf) (W : Int) : Obj :=
  match (l : Unit ⊕ (Bool ⊕ (Int ⊕ ByteArray))) with
  | Sum.inl _ => vblk 122 0 ⟨#[]⟩ nilSl nilSl W
  | Sum.inr (Sum.inl t) => vblk (if t then 116 else 102) 0 ⟨#[]⟩ nilSl nilSl W
  | Sum.inr (Sum.inr (Sum.inl n)) => vblk 110 n ⟨#[]⟩ nilSl nilSl W
  | Sum.inr (Sum.inr (Sum.inr s)) => vblk 115 0 s nilSl nilSl W

/-- p points to a leaf. -/
def RefL (w : World) (A : Nat → Prop) (l : Lf) (p : Value) : Prop := ∃ m W, p = .pointer (some ⟨m, 0, none⟩) ∧ A m ∧ w.heap[m]? = some (lfBlk l W)

/-- p points to v; all its blocks are of A. -/
def RefV : (n : Nat) → World → (Nat → Prop) → VT n → Value → Prop
  | 0, w, A, v, p => RefL w A v p
  | n + 1, w, A, v, p =>
    match (v : Lf ⊕ (List (VT n) ⊕ (List ByteArray × List (VT n)))) with
    | Sum.inl l => RefL w A l p
    | Sum.inr (Sum.inl vs) => ∃ m W l ps, p = .pointer (some ⟨m, 0, none⟩) ∧ A m ∧ w.heap[m]? = some (vblk 108 0 ⟨#[]⟩ l nilSl W) ∧ Row w 46 l ps ∧ (∀ g, l.ownBlock = some g → A g) ∧ All2 (RefV n w A) vs ps
    | Sum.inr (Sum.inr (ks, vs)) => ∃ m W l ksl ps, p = .pointer (some ⟨m, 0, none⟩) ∧ A m ∧ w.heap[m]? = some (vblk 111 0 ⟨#[]⟩ l ksl W) ∧ Row w 46 l ps ∧ Row w 9 ksl (kv ks) ∧ (∀ g, l.ownBlock = some g → A g) ∧ (∀ g, ksl.ownBlock = some g → A g) ∧ ks.length = vs.length ∧ All2 (RefV n w A) vs ps

theorem Row.same {w w' : World} {e : TypeId} {v : Value} {xs : List Value} (h : Row w e v xs) (hs : ∀ k, v.ownBlock = some k → w'.heap[k]? = w.heap[k]?) : Row w' e v xs := by
  refine ⟨h.1, ?_⟩
  rcases h.2 with h2 | ⟨g, cap, cur, rfl, h0, hg, r⟩
  · exact .inl h2
  · exact .inr ⟨g, cap, cur, rfl, h0, by rw [hs g rfl]; exact hg, r⟩

/-- What p stands for hangs on its own blocks alone. -/
theorem RefV.keep : ∀ (n : Nat) {w w' : World} {A B : Nat → Prop} {v : VT n} {p : Value}, RefV n w A v p → (∀ k o, A k → w.heap[k]? = some o → w'.heap[k]? = w.heap[k]? ∧ B k) → RefV n w' B v p
  | 0, w, w', A, B, v, p, h, hk => by
    obtain ⟨m, W, hp, hA, hh⟩ := h
    exact ⟨m, W, hp, (hk m _ hA hh).2, by rw [(hk m _ hA hh).1]; exact hh⟩
  | n + 1, w, w', A, B, v, p, h, hk => by
    match v, h with
    | Sum.inl l, h =>
      obtain ⟨m, W, hp, hA, hh⟩ := h
      exact ⟨m, W, hp, (hk m _ hA hh).2, by rw [(hk m _ hA hh).1]; exact hh⟩
    | Sum.inr (Sum.inl vs), h =>
      obtain ⟨m, W, l, ps, hp, hA, hh, hr, hl, hall⟩ := h
      have hex : ∀ g, l.ownBlock = some g → ∃ o, w.heap[g]? = some o := fun g hg => ⟨_, Array.getElem?_eq_getElem (hr.lt hg)⟩
      refine ⟨m, W, l, ps, hp, (hk m _ hA hh).2, by rw [(hk m _ hA hh).1]; exact hh, hr.same (fun g hg => ?_), fun g hg => ?_, hall.mono (fun a b hab => RefV.keep n hab hk)⟩
      · obtain ⟨o, ho⟩ := hex g hg; exact (hk g o (hl g hg) ho).1
      · obtain ⟨o, ho⟩ := hex g hg; exact (hk g o (hl g hg) ho).2
    | Sum.inr (Sum.inr (ks, vs)), h =>
      obtain ⟨m, W, l, ksl, ps, hp, hA, hh, hr, hrk, hl, hkl, hlen, hall⟩ := h
      have hex : ∀ g, l.ownBlock = some g → ∃ o, w.heap[g]? = some o := fun g hg => ⟨_, Array.getElem?_eq_getElem (hr.lt hg)⟩
      have hexk : ∀ g, ksl.ownBlock = some g → ∃ o, w.heap[g]? = some o := fun g hg => ⟨_, Array.getElem?_eq_getElem (hrk.lt hg)⟩
      refine ⟨m, W, l, ksl, ps, hp, (hk m _ hA hh).2, by rw [(hk m _ hA hh).1]; exact hh, hr.same (fun g hg => ?_), hrk.same (fun g hg => ?_), fun g hg => ?_, fun g hg => ?_, hlen, hall.mono (fun a b hab => RefV.keep n hab hk)⟩
      · obtain ⟨o, ho⟩ := hex g hg; exact (hk g o (hl g hg) ho).1
      · obtain ⟨o, ho⟩ := hexk g hg; exact (hk g o (hkl g hg) ho).1
      · obtain ⟨o, ho⟩ := hex g hg; exact (hk g o (hl g hg) ho).2
      · obtain ⟨o, ho⟩ := hexk g hg; exact (hk g o (hkl g hg) ho).2

theorem lfBlk_form (l : Lf) (W : Int) : ∃ kind n s, lfBlk l W = vblk kind n s nilSl nilSl W := by
  unfold lfBlk
  split <;> exact ⟨_, _, _, rfl⟩

/-- What p points to is a value's block, of A. -/
def PtrTo (w : World) (A : Nat → Prop) (p : Value) : Prop := ∃ m kind k s l ks wt, p = .pointer (some ⟨m, 0, none⟩) ∧ A m ∧ w.heap[m]? = some (vblk kind k s l ks wt)

theorem RefV.some1 : ∀ (n : Nat) {w : World} {A : Nat → Prop} {v : VT n} {p : Value}, RefV n w A v p → PtrTo w A p
  | 0, w, A, v, p, h => by
    obtain ⟨m, W, hp, hA, hh⟩ := h
    obtain ⟨kind, k, s, e⟩ := lfBlk_form v W
    rw [e] at hh
    exact ⟨m, kind, k, s, _, _, W, hp, hA, hh⟩
  | n + 1, w, A, v, p, h => by
    match v, h with
    | Sum.inl l, h =>
      obtain ⟨m, W, hp, hA, hh⟩ := h
      obtain ⟨kind, k, s, e⟩ := lfBlk_form l W
      rw [e] at hh
      exact ⟨m, kind, k, s, _, _, W, hp, hA, hh⟩
    | Sum.inr (Sum.inl vs), h =>
      obtain ⟨m, W, l, ps, hp, hA, hh, _⟩ := h
      exact ⟨m, _, _, _, _, _, W, hp, hA, hh⟩
    | Sum.inr (Sum.inr (ks, vs)), h =>
      obtain ⟨m, W, l, ksl, ps, hp, hA, hh, _⟩ := h
      exact ⟨m, _, _, _, _, _, W, hp, hA, hh⟩

theorem PtrTo.mono {w : World} {A B : Nat → Prop} {p : Value} (h : PtrTo w A p) (k : ∀ m, A m → B m) : PtrTo w B p := by
  obtain ⟨m, a1, a2, a3, a4, a5, a6, hp, hA, hh⟩ := h
  exact ⟨m, a1, a2, a3, a4, a5, a6, hp, k m hA, hh⟩

theorem RefV.leaf (n : Nat) {w : World} {A : Nat → Prop} {l : Lf} {m : Nat} {W : Int} (hA : A m) (h : w.heap[m]? = some (lfBlk l W)) : RefV n w A (VT.leaf n l) (.pointer (some ⟨m, 0, none⟩)) := by
  cases n with
  | zero => exact ⟨m, W, rfl, hA, h⟩
  | succ n => exact ⟨m, W, rfl, hA, h⟩

/-- What 'value' and 'bracket' do to the reader, as told by the plain function. -/
def ResIs {α : Type} (r : Except Nat (α × Nat × Bool)) (v : α) (k : Nat) (bad : Int) (lg : Bool) : Prop :=
  match r with
  | .ok x => bad = -1 ∧ v = x.1 ∧ k = x.2.1 ∧ lg = x.2.2
  | .error p => bad = (p : Int)

/-- The contract of 'value' at a depth. -/
def ValSaid (n : Nat) : Prop :=
  ∀ (b : Nat) (s : ByteArray) (k : Nat) (d : Int) (lg : Bool) (w : World), d + n = 12 → 0 ≤ d → w.heap[b]? = some (rblk s k d (-1) lg) → s.size ≤ 1000 → k ≤ s.size →
    Calls Tryz.prog 52 #[.pointer (some ⟨b, 0, none⟩)] w fun e w' => ∃ p v k' bad' lg', e = .returned p ∧ But b w w' ∧ Hid (bad' < 0 → RefV n w' (fun m => w.heap.size ≤ m) v p) ∧ PtrTo w' (fun m => w.heap.size ≤ m) p ∧ w'.heap[b]? = some (rblk s k' d bad' lg') ∧ -1 ≤ bad' ∧ Hid (bad' < 0 → k ≤ k' ∧ k' ≤ s.size) ∧ Hid (ResIs (pval n s k lg) v k' bad' lg')

/-- A list, or an object, whose bracket stands at k. -/
def brk : (n : Nat) → ByteArray → Nat → Bool → Bool → Except Nat (VT n × Nat × Bool)
  | 0, _, k, _, _ => .error k
  | n + 1, s, k, lg, obj =>
    if obj then (objF (pval n s) s (s.size + 1) true (skip s (k + 1)) lg [] []).map fun r => (VT.obj r.1.1 r.1.2, r.2)
    else (listF (pval n s) s (s.size + 1) true (skip s (k + 1)) lg []).map fun r => (VT.list r.1, r.2)

theorem isDig_no {c : Int} (h : c < 48 ∨ 57 < c) : isDig c = false := by simp [isDig]; omega
theorem pleaf_no {s : ByteArray} {k : Nat} {lg : Bool} (h1 : gb s k ≠ 34) (h2 : gb s k ≠ 45) (h3 : isDig (gb s k) = false) (h4 : gb s k ≠ 110) (h5 : gb s k ≠ 102) (h6 : gb s k ≠ 116) : pleaf s k lg = .error k := by
  rw [pleaf, if_neg h1, if_neg (by simp [h2, h3]), if_neg h4, if_neg h5, if_neg h6]

theorem pval_br {n : Nat} {s : ByteArray} {k : Nat} {lg : Bool} (obj : Bool) (h : gb s (skip s k) = if obj then 123 else 91) : pval n s k lg = brk n s (skip s k) lg obj := by
  cases n with
  | zero =>
    cases obj
    all_goals
      simp at h
      simp only [pval, brk]
      rw [pleaf_no (by omega) (by omega) (isDig_no (by omega)) (by omega) (by omega) (by omega)]; rfl
  | succ n =>
    cases obj
    · simp at h
      simp only [pval, brk]
      rw [if_pos h]; rfl
    · simp at h
      simp only [pval, brk]
      rw [if_neg (by omega), if_pos h]; rfl
theorem pval_leaf {n : Nat} {s : ByteArray} {k : Nat} {lg : Bool} (h1 : gb s (skip s k) ≠ 91) (h2 : gb s (skip s k) ≠ 123) : pval n s k lg = (pleaf s (skip s k) lg).map fun r => (VT.leaf n r.1, r.2) := by
  cases n with
  | zero => rfl
  | succ n => simp only [pval]; rw [if_neg h1, if_neg h2]

/-- The contract of 'bracket' at a depth. -/
def BrSaid (n : Nat) : Prop :=
  ∀ (b : Nat) (s : ByteArray) (k : Nat) (d : Int) (lg obj : Bool) (w : World), d + n = 12 → 0 ≤ d → w.heap[b]? = some (rblk s k d (-1) lg) → s.size ≤ 1000 → k < s.size →
    Calls Tryz.prog 80 #[.pointer (some ⟨b, 0, none⟩), .bool obj] w fun e w' => ∃ p v k' bad' lg', e = .returned p ∧ But b w w' ∧ Hid (bad' < 0 → RefV n w' (fun m => w.heap.size ≤ m) v p) ∧ PtrTo w' (fun m => w.heap.size ≤ m) p ∧ w'.heap[b]? = some (rblk s k' d bad' lg') ∧ -1 ≤ bad' ∧ Hid (bad' < 0 → k ≤ k' ∧ k' ≤ s.size) ∧ Hid (ResIs (brk n s k lg obj) v k' bad' lg')

end Go.Proofs.YtjaoocincdoaaaaGreatDoor

namespace Go.Proofs.YtjaoocincdoaaaaGreatDoor
open Go.RowKit J

set_option linter.unusedVariables false

set_option maxHeartbeats 2000000 in
theorem value_dead (b : Nat) (s : ByteArray) (k : Nat) (d bad : Int) (lg : Bool) (w : World) (hb : w.heap[b]? = some (rblk s k d bad lg)) (hbad : 0 ≤ bad) :
    Calls Tryz.prog 52 #[.pointer (some ⟨b, 0, none⟩)] w fun e w' => ∃ m, e = .returned (.pointer (some ⟨m, 0, none⟩)) ∧ w.heap.size ≤ m ∧ But b w w' ∧ w'.heap[b]? = some (rblk s k d bad lg) ∧ w'.heap[m]? = some (lfBlk Lf.null 1) := by
  have HB : Hid (w.heap[b]? = some (rblk s k d bad lg)) := hb
  have HD : Hid (0 ≤ bad) := hbad
  clear hb hbad
  go_enter Tryz.func52, Tryz.ntmps52
  go_wp2_with (first
    | (go_at_call 53; refine (blanks_dead b s k d bad lg _ (by exact HB.out) HD.out).mono ?_; rintro e w1 ⟨rfl, hbut1, hblk1⟩)
    | (go_at_call 79; refine (c_any b s k d bad lg _ (by exact hblk1)).mono ?_; rintro e w2 ⟨rfl, n, rfl⟩; rw [cv_dead s k HD.out])
    | (go_at_call 87; refine (fail_dead b s k d bad lg _ (by exact hblk1) HD.out).mono ?_; rintro e w3 ⟨rfl, rfl⟩)
    | (go_at_call 85; refine (null_any _).mono ?_; rintro e w4 ⟨rfl, rfl⟩))
  go_ret
  exact ⟨_, rfl, hbut1.size, (hbut1.drewN _).alloc _, heap_old (W := w1.drewN _) hblk1, heap_new rfl⟩

theorem word_res {s : ByteArray} {k : Nat} {lit : List UInt8} {k' : Nat} {bad' : Int} {l : Lf} {lg : Bool} {n : Nat} (h : wordR s k (-1) lit = (k', bad')) (v : VT n) (hv : v = VT.leaf n l)
    (hp : pleaf s k lg = if (wordR s k (-1) lit).2 < 0 then .ok (l, (wordR s k (-1) lit).1, lg) else .error (wordR s k (-1) lit).2.toNat) : ResIs ((pleaf s k lg).map fun r => (VT.leaf n r.1, r.2)) v k' bad' lg := by
  rw [hp, h]
  simp only
  by_cases hn : bad' < 0
  · rw [if_pos hn]
    have := wordR_dead h hn
    exact ⟨by omega, hv, rfl, rfl⟩
  · rw [if_neg hn]
    show bad' = _
    omega

theorem word_ge {s : ByteArray} : ∀ {l : List UInt8} {k : Nat} {k' : Nat} {bad bad' : Int}, wordR s k bad l = (k', bad') → k ≤ k'
  | [], k, k', bad, bad', h => by simp only [wordR, Prod.mk.injEq] at h; omega
  | c :: cs, k, k', bad, bad', h => by
    simp only [wordR] at h; split at h
    · have := word_ge h; omega
    · simp only [Prod.mk.injEq] at h; omega

theorem word_le {s : ByteArray} : ∀ {l : List UInt8} {k : Nat} {k' : Nat} {bad bad' : Int}, wordR s k bad l = (k', bad') → k ≤ s.size → k' ≤ s.size
  | [], k, k', bad, bad', h, hk => by simp only [wordR, Prod.mk.injEq] at h; omega
  | c :: cs, k, k', bad, bad', h, hk => by
    simp only [wordR] at h; split at h
    · rename_i hc
      have := (cv_lt (s := s) (k := k) (bad := bad) (by omega)).1
      exact word_le h (by omega)
    · simp only [Prod.mk.injEq] at h; omega

theorem textF_len {s : ByteArray} : ∀ (f k : Nat) (acc : List UInt8), acc.length ≤ 4 * k → k ≤ s.size → (textF s f k acc).1.length ≤ 4 * (s.size + 1)
  | 0, k, acc, h, hk => by simp [textF]
  | f + 1, k, acc, h, hk => by
    have hg : 0 ≤ gb s k → k < s.size := lt_of_gb
    simp only [textF]
    split
    · simp; omega
    · split
      · simp
      · split
        · split
          · rename_i hm
            have := manyR_good hm
            have hx : (s.extract k (manyR s k (-1)).1).data.toList.length = (manyR s k (-1)).1 - k := by
              have : (s.extract k (manyR s k (-1)).1).size = (manyR s k (-1)).1 - k := by simp [ByteArray.size_extract]; omega
              exact this
            exact textF_len f _ _ (by rw [List.length_append, hx]; omega) (by omega)
          · simp
        · split
          · split
            · rename_i hm
              have := escpR_good hm
              exact textF_len f _ _ (by rw [List.length_append]; omega) (by omega)
            · simp
          · have := hg (by omega)
            exact textF_len f _ _ (by rw [List.length_append]; simp; omega) (by omega)

theorem text_size {s : ByteArray} {k : Nat} (hs : s.size ≤ 1000) : (⟨(textR s k).1.toArray⟩ : ByteArray).size ≤ 100000 := by
  show (textR s k).1.toArray.size ≤ 100000
  unfold textR
  split
  · rename_i h
    have hk := lt_of_gb (s := s) (k := k) (by omega)
    have := textF_len (s := s) (s.size + 1) (k + 1) [] (by simp) (by omega)
    simp; omega
  · simp

theorem textF_bd {s : ByteArray} : ∀ (f k : Nat) (acc : List UInt8), (-1 ≤ (textF s f k acc).2.2) ∧ ((textF s f k acc).2.2 < 0 → (textF s f k acc).2.1 ≤ s.size ∧ (textF s f k acc).2.2 = -1)
  | 0, k, acc => by simp [textF] <;> omega
  | f + 1, k, acc => by
    simp only [textF]
    split
    · rename_i h
      have := lt_of_gb (s := s) (k := k) (by omega)
      simp <;> omega
    · split
      · simp <;> omega
      · split
        · split
          · exact textF_bd f _ _
          · simp <;> omega
        · split
          · split
            · exact textF_bd f _ _
            · simp <;> omega
          · exact textF_bd f _ _

theorem fromR_ge (s : ByteArray) (k : Nat) (bad lo hi : Int) : k ≤ (fromR s k bad lo hi).2.1 := by
  unfold fromR; split <;> simp
theorem manyR_ge (s : ByteArray) (k : Nat) (bad : Int) : k ≤ (manyR s k bad).1 := by
  simp only [manyR]
  have h1 := fromR_ge s k bad 194 244
  generalize fromR s k bad 194 244 = r1 at *
  have h2 := fromR_ge s r1.2.1 r1.2.2 (if r1.1 = 240 then 144 else if r1.1 = 224 then 160 else 128) (if r1.1 = 244 then 143 else if r1.1 = 237 then 159 else 191)
  generalize fromR s r1.2.1 r1.2.2 (if r1.1 = 240 then 144 else if r1.1 = 224 then 160 else 128) (if r1.1 = 244 then 143 else if r1.1 = 237 then 159 else 191) = r2 at *
  have h3 : r2.2.1 ≤ (if 224 ≤ r1.1 then fromR s r2.2.1 r2.2.2 128 191 else r2).2.1 := by
    split
    · exact fromR_ge _ _ _ _ _
    · exact Nat.le_refl _
  generalize (if 224 ≤ r1.1 then fromR s r2.2.1 r2.2.2 128 191 else r2) = r3 at *
  have h4 : r3.2.1 ≤ (if 240 ≤ r1.1 then fromR s r3.2.1 r3.2.2 128 191 else r3).2.1 := by
    split
    · exact fromR_ge _ _ _ _ _
    · exact Nat.le_refl _
  omega
theorem hexR_ge (s : ByteArray) (k : Nat) (bad lo hi : Int) : k ≤ (hexR s k bad lo hi).2.1 := by
  unfold hexR; split <;> simp
theorem wordR_ge' (s : ByteArray) (k : Nat) (bad : Int) (l : List UInt8) : k ≤ (wordR s k bad l).1 := word_ge (s := s) (l := l) (k := k) (bad := bad) (k' := (wordR s k bad l).1) (bad' := (wordR s k bad l).2) rfl
theorem escR_ge (s : ByteArray) (k : Nat) (bad : Int) : k ≤ (escR s k bad).2.1 := by
  simp only [escR]
  have h1 := hexR_ge s k bad 0 15
  generalize hexR s k bad 0 15 = r1 at *
  have h2 := hexR_ge s r1.2.1 r1.2.2 0 (if r1.1 = 13 then 11 else 15)
  generalize hexR s r1.2.1 r1.2.2 0 (if r1.1 = 13 then 11 else 15) = r2 at *
  have h3 := hexR_ge s r2.2.1 r2.2.2 0 15
  generalize hexR s r2.2.1 r2.2.2 0 15 = r3 at *
  have h4 := hexR_ge s r3.2.1 r3.2.2 0 15
  generalize hexR s r3.2.1 r3.2.2 0 15 = r4 at *
  split
  · simp only; omega
  · have h5 := wordR_ge' s r4.2.1 r4.2.2 [92, 117]
    generalize wordR s r4.2.1 r4.2.2 [92, 117] = r5 at *
    have h6 := hexR_ge s r5.1 r5.2 13 13
    generalize hexR s r5.1 r5.2 13 13 = r6 at *
    have h7 := hexR_ge s r6.2.1 r6.2.2 12 15
    generalize hexR s r6.2.1 r6.2.2 12 15 = r7 at *
    have h8 := hexR_ge s r7.2.1 r7.2.2 0 15
    generalize hexR s r7.2.1 r7.2.2 0 15 = r8 at *
    have h9 := hexR_ge s r8.2.1 r8.2.2 0 15
    simp only; omega
theorem escpR_ge (s : ByteArray) (k : Nat) : k ≤ (escpR s k).2.1 := by
  unfold escpR
  have := escR_ge s (k + 1) (-1)
  split
  · simp only
    split <;> simp only <;> omega
  · split <;> simp
theorem textF_ge {s : ByteArray} : ∀ (f k : Nat) (acc : List UInt8), k ≤ (textF s f k acc).2.1
  | 0, k, acc => by simp [textF]
  | f + 1, k, acc => by
    have hm := manyR_ge s k (-1)
    have he := escpR_ge s (k + 1)
    simp only [textF]
    split
    · simp
    · split
      · simp
      · split
        · split
          · exact Nat.le_trans hm (textF_ge f _ _)
          · simpa using hm
        · split
          · split
            · exact Nat.le_trans (by omega) (textF_ge f _ _)
            · simp only; omega
          · exact Nat.le_trans (by omega) (textF_ge f _ _)
theorem textR_ge (s : ByteArray) (k : Nat) : k ≤ (textR s k).2.1 := by
  unfold textR; split
  · exact Nat.le_trans (by omega) (textF_ge _ _ _)
  · simp
theorem textR_bd (s : ByteArray) (k : Nat) : -1 ≤ (textR s k).2.2 := by
  unfold textR; split
  · exact (textF_bd _ _ _).1
  · simp <;> omega
theorem textR_le {s : ByteArray} {k : Nat} (hk : k ≤ s.size) : (textR s k).2.2 < 0 → (textR s k).2.1 ≤ s.size := by
  unfold textR; split
  · intro h; exact ((textF_bd _ _ _).2 h).1
  · intro h; exact hk
theorem textR_neg {s : ByteArray} {k : Nat} (h : (textR s k).2.2 < 0) : (textR s k).2.2 = -1 := by
  unfold textR at h ⊢; split at h
  · rename_i hc; rw [if_pos hc] ; exact ((textF_bd _ _ _).2 h).2
  · simp at h; omega
theorem text_res {n : Nat} {s : ByteArray} {k : Nat} {lg : Bool} (h : gb s k = 34) : ResIs ((pleaf s k lg).map fun r => (VT.leaf n r.1, r.2)) (VT.leaf n (Lf.str ⟨(textR s k).1.toArray⟩)) (textR s k).2.1 (textR s k).2.2 lg := by
  rw [pleaf, if_pos h]
  by_cases hn : (textR s k).2.2 < 0
  · rw [if_pos hn]; exact ⟨textR_neg hn, rfl, rfl, rfl⟩
  · rw [if_neg hn]; show (textR s k).2.2 = _; omega

theorem expR_bd {s : ByteArray} {k : Nat} {bad : Int} (hb : -1 ≤ bad) (hk : k ≤ s.size) : -1 ≤ (expR s k bad).2.2 ∧ (expR s k bad).2.1 ≤ s.size ∧ ((expR s k bad).2.2 < 0 → (expR s k bad).2.2 = -1) ∧ k ≤ (expR s k bad).2.1 := by
  unfold expR
  split
  · rename_i h
    have hk5 := (cv_lt (s := s) (k := k) (bad := bad) (by omega)).1
    have hle : (if gb s (k + 1) = 45 ∨ gb s (k + 1) = 43 then k + 2 else k + 1) ≤ s.size := by
      split
      · have := lt_of_gb (s := s) (k := k + 1) (by omega); omega
      · omega
    obtain ⟨l, k', b', hr⟩ : ∃ l k' b', runX s (if gb s (k + 1) = 45 ∨ gb s (k + 1) = 43 then k + 2 else k + 1) = (l, k', b') := ⟨_, _, _, rfl⟩
    have := runX_ok hr hle
    have hge : k ≤ (if gb s (k + 1) = 45 ∨ gb s (k + 1) = 43 then k + 2 else k + 1) := by split <;> omega
    simp only [hr]
    omega
  · exact ⟨hb, hk, by intro h; simp only at h ⊢; omega, Nat.le_refl _⟩
theorem partR_bd {s : ByteArray} {k : Nat} (hk : k ≤ s.size) : -1 ≤ (partR s k).2.2 ∧ (partR s k).2.1 ≤ s.size ∧ k ≤ (partR s k).2.1 := by
  unfold partR
  split
  · rename_i h
    have := lt_of_gb (s := s) (k := k) (by omega)
    obtain ⟨l, k', b', hr⟩ : ∃ l k' b', runX s (k + 1) = (l, k', b') := ⟨_, _, _, rfl⟩
    have := runX_ok hr (by omega)
    simp only [hr]
    omega
  · exact ⟨by simp, hk, Nat.le_refl _⟩
theorem wholeE_le {s : ByteArray} {k k2 : Nat} (h : wholeE s k = some k2) (hk : k ≤ s.size) : k2 ≤ s.size ∧ k ≤ k2 := by
  unfold wholeE at h
  split at h
  · rename_i hc
    have := lt_of_gb (s := s) (k := k) (by omega)
    injection h with h; omega
  · split at h
    · injection h with h; have := runE_size s k hk; have := runE_le s k; omega
    · simp at h

theorem num_res {n : Nat} {s : ByteArray} {k : Nat} {lg : Bool} {w : World} {m : Nat} (hk : k ≤ s.size) (hm : w.heap[m]? = some (numBlk (decide (gb s k = 45)) (numR s k).1)) (hc : gb s k = 45 ∨ isDig (gb s k) = true) :
    ∃ l W, w.heap[m]? = some (lfBlk l W) ∧ ResIs ((pleaf s k lg).map fun r => (VT.leaf n r.1, r.2)) (VT.leaf n l) (numR s k).2.1 (numR s k).2.2 (numLg lg (numR s k).1) ∧ -1 ≤ (numR s k).2.2 ∧ ((numR s k).2.2 < 0 → k ≤ (numR s k).2.1 ∧ (numR s k).2.1 ≤ s.size) := by
  have h34 : gb s k ≠ 34 := by rcases hc with h | h; · omega
                               · simp [isDig] at h; omega
  have hpl : pleaf s k lg = if (numR s k).2.2 < 0 then .ok (Lf.num (if gb s k = 45 then -(((numR s k).1.getD none).getD 0) else ((numR s k).1.getD none).getD 0), (numR s k).2.1, numLg lg (numR s k).1) else .error (numR s k).2.2.toNat := by
    rw [pleaf, if_neg h34, if_pos hc]
  rw [hpl]
  obtain ⟨k1, hk1⟩ : ∃ k1, k1 = if gb s k = 45 then k + 1 else k := ⟨_, rfl⟩
  have hk1s : k1 ≤ s.size := by
    rw [hk1]; split
    · have := lt_of_gb (s := s) (k := k) (by omega); omega
    · exact hk
  cases hw : wholeE s k1 with
  | none =>
    rw [numR_none hk1 hw] at hm ⊢
    refine ⟨Lf.null, 1, hm, ?_, by simp only; omega, by simp only; omega⟩
    simp only
    rw [if_neg (by omega)]
    show (k1 : Int) = _
    simp
  | some k2 =>
    have hk2 := wholeE_le hw hk1s
    have hk1k : k ≤ k1 := by rw [hk1]; split <;> omega
    have hp := partR_bd hk2.1
    have he := expR_bd hp.1 hp.2.1
    obtain ⟨pt, k3, b3, h3⟩ : ∃ pt k3 b3, partR s k2 = (pt, k3, b3) := ⟨_, _, _, rfl⟩
    rw [h3] at he hp
    simp only at hp
    obtain ⟨pw, k4, b4, h4⟩ : ∃ pw k4 b4, expR s k3 b3 = (pw, k4, b4) := ⟨_, _, _, rfl⟩
    simp only [h4] at he
    rw [numR_some hk1 hw h3 h4] at hm ⊢
    generalize exactR ((s.extract k1 k2).data.toList ++ pt.data.toList) (((k2 - k1 : Nat) : Int) + pw) = X at *
    simp only at hm ⊢
    refine ⟨Lf.num (if decide (gb s k = 45) then -(X.getD 0) else X.getD 0), 1, hm, ?_, he.1, fun _ => ⟨by omega, he.2.1⟩⟩
    by_cases hn : b4 < 0
    · rw [if_pos hn]
      exact ⟨he.2.2.1 hn, by simp, rfl, rfl⟩
    · rw [if_neg hn]; show b4 = _; omega

set_option maxRecDepth 100000 in
set_option maxHeartbeats 8000000 in
theorem value_of (n : Nat) (hbr : BrSaid n) : ValSaid n := by
  intro b s k d lg w hd hd0 hb hs hk
  have HBR : Hid (BrSaid n) := hbr
  have HD0 : Hid (0 ≤ d) := hd0
  clear hd0
  have HDN : Hid (d + n = 12) := hd
  clear hbr hd
  go_enter Tryz.func52, Tryz.ntmps52
  go_wp2_with fail
  refine (blanks_good b s k d lg w hb hs).mono ?_
  rintro e w1 ⟨rfl, hbut1, hblk1⟩
  obtain ⟨k1, hk1⟩ : ∃ k1, k1 = skip s k := ⟨_, rfl⟩
  rw [← hk1] at hblk1
  have HK : Hid (k1 = skip s k) := hk1
  have hk1s : k1 ≤ s.size := by rw [hk1]; exact skip_size s k hk
  obtain ⟨c, hc⟩ : ∃ c, c = gb s k1 := ⟨_, rfl⟩
  have hcb := gb_bd s k1
  rw [← hc] at hcb
  have HC : Hid (c = gb s k1) := hc
  have HB : Hid (w1.heap[b]? = some (rblk s k1 d (-1) lg)) := hblk1
  clear hb hk1 hblk1 hc
  rcases (show c = 91 ∨ c = 123 ∨ c = 34 ∨ c = 45 ∨ (48 ≤ c ∧ c ≤ 57) ∨ c = 110 ∨ c = 102 ∨ c = 116 ∨ (c ≠ 91 ∧ c ≠ 123 ∧ c ≠ 34 ∧ c ≠ 45 ∧ (c < 48 ∨ 57 < c) ∧ c ≠ 110 ∧ c ≠ 102 ∧ c ≠ 116) from by omega) with rfl | rfl | rfl | rfl | ⟨h1, h2⟩ | rfl | rfl | rfl | ⟨n1, n2, n3, n4, n5, n6, n7, n8⟩
  · have hks : k1 < s.size := lt_of_gb (by rw [← HC.out]; omega)
    go_wp2_with (first
      | (go_at_call 79; refine (c_any b s k1 d (-1) lg _ (by exact HB.out)).mono ?_; rintro e w2 ⟨rfl, nd, rfl⟩; rw [cv_good, ← HC.out])
      | (go_at_call 80; refine (HBR.out b s k1 d lg _ _ HDN.out HD0.out (by exact HB.out) hs hks).mono ?_; rintro e w3 ⟨p, v, k', bad', lg', rfl, hbut3, href, hpt, hblk3, hbad3, hle, hres⟩))
    go_ret
    have hB := (hbut1.drewN _).trans hbut3
    refine ⟨p, v, k', bad', lg', rfl, hB, fun hn => RefV.keep n (href.out hn) (fun k o hk ho => ⟨rfl, Nat.le_trans hbut1.size hk⟩), hpt.mono (fun m h => Nat.le_trans hbut1.size h), hblk3, hbad3, fun h => ⟨Nat.le_trans (by rw [HK.out]; exact skip_le s k) (hle.out h).1, (hle.out h).2⟩, ?_⟩
    have e : pval n s k lg = brk n s k1 lg false := by rw [pval_br false (by rw [← HK.out, ← HC.out]; rfl), ← HK.out]
    show ResIs _ _ _ _ _
    rw [e]; exact hres.out
  · have hks : k1 < s.size := lt_of_gb (by rw [← HC.out]; omega)
    go_wp2_with (first
      | (go_at_call 79; refine (c_any b s k1 d (-1) lg _ (by exact HB.out)).mono ?_; rintro e w2 ⟨rfl, nd, rfl⟩; rw [cv_good, ← HC.out])
      | (go_at_call 80; refine (HBR.out b s k1 d lg _ _ HDN.out HD0.out (by exact HB.out) hs hks).mono ?_; rintro e w3 ⟨p, v, k', bad', lg', rfl, hbut3, href, hpt, hblk3, hbad3, hle, hres⟩))
    go_ret
    have hB := (hbut1.drewN _).trans hbut3
    refine ⟨p, v, k', bad', lg', rfl, hB, fun hn => RefV.keep n (href.out hn) (fun k o hk ho => ⟨rfl, Nat.le_trans hbut1.size hk⟩), hpt.mono (fun m h => Nat.le_trans hbut1.size h), hblk3, hbad3, fun h => ⟨Nat.le_trans (by rw [HK.out]; exact skip_le s k) (hle.out h).1, (hle.out h).2⟩, ?_⟩
    have e : pval n s k lg = brk n s k1 lg true := by rw [pval_br true (by rw [← HK.out, ← HC.out]; rfl), ← HK.out]
    show ResIs _ _ _ _ _
    rw [e]; exact hres.out
  · go_wp2_with (first
      | (go_at_call 79; refine (c_any b s k1 d (-1) lg _ (by exact HB.out)).mono ?_; rintro e w2 ⟨rfl, nd, rfl⟩; rw [cv_good, ← HC.out])
      | (go_at_call 81; refine (text_any b s k1 d lg _ (by exact HB.out) hs).mono ?_; rintro e w3 ⟨rfl, hbut3, hblk3⟩)
      | (go_at_call 82; refine (str_any _ _ ?hsz).mono ?_; rotate_left; rintro e w4 ⟨rfl, rfl⟩))
    case hsz => exact text_size hs
    go_ret
    have hB := (hbut1.drewN _).trans hbut3
    have e : pval n s k lg = (pleaf s k1 lg).map fun r => (VT.leaf n r.1, r.2) := by rw [pval_leaf (by rw [← HK.out, ← HC.out]; omega) (by rw [← HK.out, ← HC.out]; omega), ← HK.out]
    refine ⟨_, VT.leaf n (Lf.str ⟨(textR s k1).1.toArray⟩), _, _, _, rfl, hB.alloc _, fun _ => RefV.leaf n (W := 1 + ((⟨(textR s k1).1.toArray⟩ : ByteArray).size : Int)) (Nat.le_trans hB.size (Nat.le_refl _)) (heap_new rfl), ⟨_, _, _, _, _, _, _, rfl, hB.size, heap_new rfl⟩, heap_old hblk3, textR_bd s k1, fun h => ⟨Nat.le_trans (by rw [HK.out]; exact skip_le s k) (textR_ge s k1), textR_le hk1s h⟩, ?_⟩
    show ResIs _ _ _ _ _
    rw [e]; exact text_res HC.out.symm
  · go_wp2_with (first
      | (go_at_call 79; refine (c_any b s k1 d (-1) lg _ (by exact HB.out)).mono ?_; rintro e w2 ⟨rfl, nd, rfl⟩; rw [cv_good, ← HC.out])
      | (go_at_call 83; refine (number_any b s k1 d lg _ (by exact HB.out) hs hk1s).mono ?_; rintro e w3 ⟨m, rfl, hm, hbut3, hblk3, hblkm⟩))
    go_ret
    have hB := (hbut1.drewN _).trans hbut3
    have e : pval n s k lg = (pleaf s k1 lg).map fun r => (VT.leaf n r.1, r.2) := by rw [pval_leaf (by rw [← HK.out, ← HC.out]; omega) (by rw [← HK.out, ← HC.out]; omega), ← HK.out]
    obtain ⟨l, W, hl, hres, hbd, hle⟩ := num_res (n := n) (lg := lg) hk1s hblkm (by rw [← HC.out]; exact Or.inl rfl)
    refine ⟨_, VT.leaf n l, _, _, _, rfl, hB, fun _ => RefV.leaf n (Nat.le_trans hbut1.size hm) hl, RefV.some1 n (RefV.leaf n (Nat.le_trans hbut1.size hm) hl), hblk3, hbd, fun h => ⟨Nat.le_trans (by rw [HK.out]; exact skip_le s k) (hle h).1, (hle h).2⟩, ?_⟩
    show ResIs _ _ _ _ _
    rw [e]; exact hres
  · have e1 : (c == 91) = false := beq_eq_false_iff_ne.2 (by omega)
    have e2 : (c == 123) = false := beq_eq_false_iff_ne.2 (by omega)
    go_wp2_with (first
      | (go_at_call 79; refine (c_any b s k1 d (-1) lg _ (by exact HB.out)).mono ?_; rintro e w2 ⟨rfl, nd, rfl⟩; rw [cv_good, ← HC.out])
      | (go_at_call 83; refine (number_any b s k1 d lg _ (by exact HB.out) hs hk1s).mono ?_; rintro e w3 ⟨m, rfl, hm, hbut3, hblk3, hblkm⟩))
    go_ret
    have hB := (hbut1.drewN _).trans hbut3
    have e : pval n s k lg = (pleaf s k1 lg).map fun r => (VT.leaf n r.1, r.2) := by rw [pval_leaf (by rw [← HK.out, ← HC.out]; omega) (by rw [← HK.out, ← HC.out]; omega), ← HK.out]
    obtain ⟨l, W, hl, hres, hbd, hle⟩ := num_res (n := n) (lg := lg) hk1s hblkm (by rw [← HC.out]; exact Or.inr (by simp [isDig]; omega))
    refine ⟨_, VT.leaf n l, _, _, _, rfl, hB, fun _ => RefV.leaf n (Nat.le_trans hbut1.size hm) hl, RefV.some1 n (RefV.leaf n (Nat.le_trans hbut1.size hm) hl), hblk3, hbd, fun h => ⟨Nat.le_trans (by rw [HK.out]; exact skip_le s k) (hle h).1, (hle h).2⟩, ?_⟩
    show ResIs _ _ _ _ _
    rw [e]; exact hres
  · go_wp2_with (first
      | (go_at_call 79; refine (c_any b s k1 d (-1) lg _ (by exact HB.out)).mono ?_; rintro e w2 ⟨rfl, nd, rfl⟩; rw [cv_good, ← HC.out])
      | (go_at_call 84; refine (word_ex b s _ k1 d (-1) lg _ (by exact HB.out) hs (by omega) (by decide)).mono ?_; rintro e w3 ⟨k', bad', rfl, hbut3, hblk3, hr, hbad'⟩)
      | (go_at_call 85; refine (null_any _).mono ?_; rintro e w4 ⟨rfl, rfl⟩))
    go_ret
    have hB := (hbut1.drewN _).trans hbut3
    have e : pval n s k lg = (pleaf s k1 lg).map fun r => (VT.leaf n r.1, r.2) := by rw [pval_leaf (by rw [← HK.out, ← HC.out]; omega) (by rw [← HK.out, ← HC.out]; omega), ← HK.out]
    refine ⟨_, VT.leaf n (Lf.null), k', bad', lg, rfl, hB.alloc _, fun _ => RefV.leaf n (W := 1) hB.size (heap_new rfl), ⟨_, _, _, _, _, _, _, rfl, hB.size, heap_new rfl⟩, heap_old hblk3, hbad', fun _ => ⟨Nat.le_trans (by rw [HK.out]; exact skip_le s k) (word_ge hr.out), word_le hr.out hk1s⟩, ?_⟩
    show ResIs _ _ _ _ _
    rw [e]; exact word_res hr.out _ rfl (by rw [pleaf, if_neg (by rw [← HC.out]; omega), if_neg (by rw [← HC.out]; simp [isDig]), if_pos HC.out.symm])
  · go_wp2_with (first
      | (go_at_call 79; refine (c_any b s k1 d (-1) lg _ (by exact HB.out)).mono ?_; rintro e w2 ⟨rfl, nd, rfl⟩; rw [cv_good, ← HC.out])
      | (go_at_call 84; refine (word_ex b s _ k1 d (-1) lg _ (by exact HB.out) hs (by omega) (by decide)).mono ?_; rintro e w3 ⟨k', bad', rfl, hbut3, hblk3, hr, hbad'⟩)
      | (go_at_call 86; refine (truth_any _ _).mono ?_; rintro e w4 ⟨rfl, rfl⟩))
    go_ret
    have hB := (hbut1.drewN _).trans hbut3
    have e : pval n s k lg = (pleaf s k1 lg).map fun r => (VT.leaf n r.1, r.2) := by rw [pval_leaf (by rw [← HK.out, ← HC.out]; omega) (by rw [← HK.out, ← HC.out]; omega), ← HK.out]
    refine ⟨_, VT.leaf n (Lf.truth false), k', bad', lg, rfl, hB.alloc _, fun _ => RefV.leaf n (W := 1) hB.size (heap_new rfl), ⟨_, _, _, _, _, _, _, rfl, hB.size, heap_new rfl⟩, heap_old hblk3, hbad', fun _ => ⟨Nat.le_trans (by rw [HK.out]; exact skip_le s k) (word_ge hr.out), word_le hr.out hk1s⟩, ?_⟩
    show ResIs _ _ _ _ _
    rw [e]; exact word_res hr.out _ rfl (by rw [pleaf, if_neg (by rw [← HC.out]; omega), if_neg (by rw [← HC.out]; simp [isDig]), if_neg (by rw [← HC.out]; omega), if_pos HC.out.symm])
  · go_wp2_with (first
      | (go_at_call 79; refine (c_any b s k1 d (-1) lg _ (by exact HB.out)).mono ?_; rintro e w2 ⟨rfl, nd, rfl⟩; rw [cv_good, ← HC.out])
      | (go_at_call 84; refine (word_ex b s _ k1 d (-1) lg _ (by exact HB.out) hs (by omega) (by decide)).mono ?_; rintro e w3 ⟨k', bad', rfl, hbut3, hblk3, hr, hbad'⟩)
      | (go_at_call 86; refine (truth_any _ _).mono ?_; rintro e w4 ⟨rfl, rfl⟩))
    go_ret
    have hB := (hbut1.drewN _).trans hbut3
    have e : pval n s k lg = (pleaf s k1 lg).map fun r => (VT.leaf n r.1, r.2) := by rw [pval_leaf (by rw [← HK.out, ← HC.out]; omega) (by rw [← HK.out, ← HC.out]; omega), ← HK.out]
    refine ⟨_, VT.leaf n (Lf.truth true), k', bad', lg, rfl, hB.alloc _, fun _ => RefV.leaf n (W := 1) hB.size (heap_new rfl), ⟨_, _, _, _, _, _, _, rfl, hB.size, heap_new rfl⟩, heap_old hblk3, hbad', fun _ => ⟨Nat.le_trans (by rw [HK.out]; exact skip_le s k) (word_ge hr.out), word_le hr.out hk1s⟩, ?_⟩
    show ResIs _ _ _ _ _
    rw [e]; exact word_res hr.out _ rfl (by rw [pleaf, if_neg (by rw [← HC.out]; omega), if_neg (by rw [← HC.out]; simp [isDig]), if_neg (by rw [← HC.out]; omega), if_neg (by rw [← HC.out]; omega), if_pos HC.out.symm])
  · have e1 : (c == 91) = false := beq_eq_false_iff_ne.2 n1
    have e2 : (c == 123) = false := beq_eq_false_iff_ne.2 n2
    have e3 : (c == 34) = false := beq_eq_false_iff_ne.2 n3
    have e4 : (c == 45) = false := beq_eq_false_iff_ne.2 n4
    have e6 : (c == 110) = false := beq_eq_false_iff_ne.2 n6
    have e7 : (c == 102) = false := beq_eq_false_iff_ne.2 n7
    have e8 : (c == 116) = false := beq_eq_false_iff_ne.2 n8
    have HE : Hid (pval n s k lg = .error k1) := by
      show _ = _
      rw [pval_leaf (by rw [← HK.out, ← HC.out]; exact n1) (by rw [← HK.out, ← HC.out]; exact n2), ← HK.out]
      rw [pleaf_no (by rw [← HC.out]; exact n3) (by rw [← HC.out]; exact n4) (isDig_no (by rw [← HC.out]; exact n5)) (by rw [← HC.out]; exact n6) (by rw [← HC.out]; exact n7) (by rw [← HC.out]; exact n8)]; rfl
    clear n1 n2 n3 n4 n6 n7 n8
    rcases n5 with n5 | n5
    all_goals
      go_wp2_with (first
        | (go_at_call 79; refine (c_any b s k1 d (-1) lg _ (by exact HB.out)).mono ?_; rintro e w2 ⟨rfl, nd, rfl⟩; rw [cv_good, ← HC.out])
        | (go_at_call 87; refine (fail_good b s k1 d lg _ (by exact HB.out)).mono ?_; rintro e w3 ⟨rfl, hbut3, hblk3⟩)
        | (go_at_call 85; refine (null_any _).mono ?_; rintro e w4 ⟨rfl, rfl⟩))
      go_ret
      have hB := (hbut1.drewN _).trans hbut3
      refine ⟨_, VT.leaf n Lf.null, k1, k1, lg, rfl, hB.alloc _, fun _ => RefV.leaf n (W := 1) hB.size (heap_new rfl), ⟨_, _, _, _, _, _, _, rfl, hB.size, heap_new rfl⟩, heap_old hblk3, by omega, fun _ => ⟨by rw [HK.out]; exact skip_le s k, hk1s⟩, ?_⟩
      show ResIs _ _ _ _ _
      rw [HE.out]; rfl

end Go.Proofs.YtjaoocincdoaaaaGreatDoor

namespace Go.Proofs.YtjaoocincdoaaaaGreatDoor
open Go.RowKit J

set_option linter.unusedVariables false

theorem all2_keep {n : Nat} {w w' : World} {A B : Nat → Prop} {vs : List (VT n)} {ps : List Value} (h : All2 (RefV n w A) vs ps) (hk : ∀ k o, A k → w.heap[k]? = some o → w'.heap[k]? = w.heap[k]? ∧ B k) : All2 (RefV n w' B) vs ps :=
  h.mono (fun a b hab => RefV.keep n hab hk)

/-- One more thing behind a list's things. -/
theorem list_step {n N M : Nat} {w2 w3 : World} {l l' p2 : Value} {ps : List Value} {vs : List (VT n)} {v2 : VT n} (hall : All2 (RefV n w2 (fun m => N < m ∧ l.ownBlock ≠ some m)) vs ps) (href : RefV n w2 (fun m => M ≤ m) v2 p2)
    (hNM : N < M) (hl : ∀ g, l.ownBlock = some g → N < g ∧ g < M) (hl' : ∀ g, l'.ownBlock = some g → l.ownBlock = some g ∨ w2.heap.size ≤ g) (hMw : M ≤ w2.heap.size) (hc : Chg (fun k => k = N ∨ l.ownBlock = some k) w2 w3) :
    All2 (RefV n w3 (fun m => N < m ∧ l'.ownBlock ≠ some m)) (vs ++ [v2]) (ps ++ [p2]) ∧ ∀ g, l'.ownBlock = some g → N < g := by
  have key : ∀ k o, (N < k ∧ l.ownBlock ≠ some k) → w2.heap[k]? = some o → w3.heap[k]? = w2.heap[k]? ∧ (N < k ∧ l'.ownBlock ≠ some k) := by
    intro k o ⟨h1, h2⟩ ho
    have hk := lt_of_heap ho
    refine ⟨hc.block k hk (by rintro (h | h); · omega
                              · exact h2 h), h1, ?_⟩
    intro e
    rcases hl' k e with h | h
    · exact h2 h
    · omega
  refine ⟨All2.snoc (RefV.keep n href ?_) (all2_keep hall key), ?_⟩
  · intro k o hk ho
    exact key k o ⟨by omega, fun e => by have := hl k e; omega⟩ ho
  · intro g hg
    rcases hl' g hg with h | h
    · exact (hl g h).1
    · omega

theorem listF_end {α : Type} {item : Nat → Bool → Except Nat (α × Nat × Bool)} {s : ByteArray} {f : Nat} {fst : Bool} {k : Nat} {lg : Bool} {acc : List α} (h : gb s k = 93) : listF item s (f + 1) fst k lg acc = .ok (acc, k + 1, lg) := by rw [listF, if_pos h]
theorem listF_bad {α : Type} {item : Nat → Bool → Except Nat (α × Nat × Bool)} {s : ByteArray} {f : Nat} {k : Nat} {lg : Bool} {acc : List α} (h : gb s k ≠ 93) (h2 : gb s k ≠ 44) : listF item s (f + 1) false k lg acc = .error k := by rw [listF, if_neg h, if_pos ⟨rfl, h2⟩]
theorem listF_err {α : Type} {item : Nat → Bool → Except Nat (α × Nat × Bool)} {s : ByteArray} {f : Nat} {fst : Bool} {k : Nat} {lg : Bool} {acc : List α} {p : Nat} (h : gb s k ≠ 93) (h2 : fst = true ∨ gb s k = 44) (hi : item (if fst then k else k + 1) lg = .error p) : listF item s (f + 1) fst k lg acc = .error p := by
  rw [listF, if_neg h, if_neg (by rcases h2 with h2 | h2 <;> simp [h2]), hi]
theorem listF_next {α : Type} {item : Nat → Bool → Except Nat (α × Nat × Bool)} {s : ByteArray} {f : Nat} {fst : Bool} {k : Nat} {lg : Bool} {acc : List α} {v : α} {k2 : Nat} {lg2 : Bool} (h : gb s k ≠ 93) (h2 : fst = true ∨ gb s k = 44) (hi : item (if fst then k else k + 1) lg = .ok (v, k2, lg2)) :
    listF item s (f + 1) fst k lg acc = listF item s f false (skip s k2) lg2 (acc ++ [v]) := by
  rw [listF, if_neg h, if_neg (by rcases h2 with h2 | h2 <;> simp [h2]), hi]

set_option maxHeartbeats 2000000 in
theorem br_zero : BrSaid 0 := by
  intro b s k d lg obj w hd hd0 hb hs hk
  obtain ⟨g0, g1, g2, g3, g4, hf⟩ := rcells hb
  have hd12 : (d == 12) = true := beq_iff_eq.2 (by omega)
  have HB : Hid (w.heap[b]? = some (rblk s k d (-1) lg)) := hb
  have hbw := lt_of_heap hb
  clear hb g0 g1 g3 g4 hf hd
  cases obj
  · go_enter Tryz.func80, Tryz.ntmps80
    go_wp2_with (go_at_call 87; refine (fail_good b s k d lg _ (by exact heap_old HB.out)).mono ?_; rintro e w3 ⟨rfl, hbut3, hblk3⟩)
    go_ret
    have hm : w3.heap[w.heap.size]? = some (vblk 108 0 ⟨#[]⟩ nilSl nilSl 1) := (hbut3.block _ (by simp) (by intro e; injection e; omega)).trans (heap_new rfl)
    exact ⟨_, VT.leaf 0 Lf.null, k, k, lg, rfl, ((But.refl b w).alloc _).trans hbut3, fun h => absurd h (by omega), ⟨_, _, _, _, _, _, _, rfl, Nat.le_refl _, hm⟩, hblk3, by omega, fun h => absurd h (by omega), rfl⟩
  · go_enter Tryz.func80, Tryz.ntmps80
    go_wp2_with (go_at_call 87; refine (fail_good b s k d lg _ (by exact heap_old HB.out)).mono ?_; rintro e w3 ⟨rfl, hbut3, hblk3⟩)
    go_ret
    have hm : w3.heap[w.heap.size]? = some (vblk 111 0 ⟨#[]⟩ nilSl nilSl 1) := (hbut3.block _ (by simp) (by intro e; injection e; omega)).trans (heap_new rfl)
    exact ⟨_, VT.leaf 0 Lf.null, k, k, lg, rfl, ((But.refl b w).alloc _).trans hbut3, fun h => absurd h (by omega), ⟨_, _, _, _, _, _, _, rfl, Nat.le_refl _, hm⟩, hblk3, by omega, fun h => absurd h (by omega), rfl⟩

end Go.Proofs.YtjaoocincdoaaaaGreatDoor
