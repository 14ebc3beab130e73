/- The program's reader: a list. The program's reader: an object. The program's reader: a value. The program's reader: what lies within brackets, and every value. -/
import Derived.Test.YtjaoocincdoaaaaGreatDoorA14
namespace Go.Proofs.YtjaoocincdoaaaaGreatDoor
open Go.RowKit J

set_option linter.unusedVariables false

/-- What 'value' hands back. -/
def PRes (n : Nat) (J : Addr) (R : Except Nat (VT n × Nat × Bool)) (w' : World) (M : Nat) (x er : Value) (k' : Nat) (lg' : Bool) : Prop :=
  match R with
  | .error p => er = errV J p
  | .ok r => er = .nilIface ∧ k' = r.2.1 ∧ lg' = r.2.2 ∧ RefP n w' (fun m => M ≤ m) r.1 x

/-- The contract of the program's 'value' at a depth. -/
def PValSaid (n : Nat) : Prop :=
  ∀ (b : Nat) (s : ByteArray) (k : Nat) (op : Int) (lg : Bool) (w : World) (J : Addr), op + (n : Int) = 12 → 0 ≤ op → PS w b s k op lg J → Env w → 16 ≤ b → s.size ≤ 1000 → k ≤ s.size → skip s k = k →
    Calls Tryz.prog 12 #[.pointer (some ⟨b, 0, none⟩)] w fun e w' => ∃ x er k' lg', e = .returned (.tuple #[x, er]) ∧ IsIf x ∧ But b w w' ∧ PS w' b s k' op lg' J ∧ Hid (PRes n J (pvalQ n s k lg) w' w.heap.size x er k' lg')

theorem info_val : (Tryz.prog.info? 27).map (fun i => (i.zero, i.size, i.bytes)) = some (some .nilIface, 1, 16) := by kernel_rfl

/-- A list that is being read: the reader's pointer lies at N, the list at N + 1. -/
def PList (n N b : Nat) (vs : List (VT n)) (j : Nat) (w : World) : Prop :=
  w.heap[N]? = some (.cells #[.pointer (some ⟨b, 0, none⟩)] 50 (0, 0)) ∧ vs.length ≤ j ∧
  ∃ sl xs, w.heap[N + 1]? = some (.cells #[sl] 80 (0, 0)) ∧ Row w 27 sl xs ∧ (∀ g, sl.ownBlock = some g → N + 1 < g) ∧ All2 (RefP n w (fun m => N + 1 < m ∧ sl.ownBlock ≠ some m)) vs xs

theorem PList.but {n N b : Nat} {vs : List (VT n)} {j j' : Nat} {w w' : World} (h : PList n N b vs j w) (hj : j ≤ j') (hb : But b w w') (hbN : b < N) : PList n N b vs j' w' := by
  obtain ⟨h1, h2, sl, xs, h3, h4, h5, h6⟩ := h
  refine ⟨(hb.block N (lt_of_heap h1) (by intro e; injection e; omega)).trans h1, by omega, sl, xs, (hb.block _ (lt_of_heap h3) (by intro e; injection e; omega)).trans h3, h4.same (fun g hg => hb.block g (h4.lt hg) (by intro e; injection e; have := h5 g hg; omega)), h5, all2_keepP h6 (fun k hk hlt => ⟨hb.block k hlt (by intro e; injection e; omega), hk⟩)⟩

/-- The list's variable lies there. -/
def LVar (N : Nat) (w : World) : Prop := ∃ sl, w.heap[N + 1]? = some (.cells #[sl] 80 (0, 0))
theorem LVar.but {N b : Nat} {w w' : World} (h : LVar N w) (hb : But b w w') (hbN : b < N) : LVar N w' := by
  obtain ⟨sl, h⟩ := h
  exact ⟨sl, (hb.block _ (lt_of_heap h) (by intro e; injection e; omega)).trans h⟩

set_option maxRecDepth 100000 in
set_option maxHeartbeats 4000000 in
theorem list1_any (n : Nat) (hval : PValSaid n) (b : Nat) (s : ByteArray) (op : Int) (J : Addr) (N : Nat) (hop : op + (n : Int) = 12) (hop0 : 0 ≤ op) (hG : 16 ≤ b) (hbN : b < N) (hs : s.size ≤ 1000)
    (st : List (VT n)) (j : Nat) (lg : Bool) (w : World) (hinv : PList n N b st j w) (hN : N ≤ w.heap.size) (hp : PS w b s j op lg J) (hE : Env w) (hsk : skip s j = j) (hj : j ≤ s.size) :
    Calls Tryz.prog 63 #[.pointer (some ⟨N, 0, none⟩), .pointer (some ⟨N + 1, 0, none⟩)] w fun e w' => ∃ er k' lg', e = .returned er ∧ Bel N b w w' ∧ PS w' b s k' op lg' J ∧ LVar N w' ∧ Hid (StepIs s J (itemStep n s st j lg) er j k' lg' (fun st' => PList n N b st' k' w')) := by
  have HV := hval b s j op lg w J hop hop0 hp hE hG hs hj hsk
  have HV' := hid_of HV
  obtain ⟨h1, h2, sl, xs, h3, h4, h5, h6⟩ := hinv
  have c1 : w.cell? ⟨N, 0, none⟩ = some (.pointer (some ⟨b, 0, none⟩)) := by simp [World.cell?, h1]
  have hNw : N + 1 < w.heap.size := lt_of_heap h3
  have hxl : xs.length ≤ 1000 := by rw [← h6.length]; omega
  have H1 : Hid (w.heap[N]? = some (.cells #[.pointer (some ⟨b, 0, none⟩)] 50 (0, 0))) := h1
  have H2 : Hid (st.length ≤ j) := h2
  have H3 : Hid (w.heap[N + 1]? = some (.cells #[sl] 80 (0, 0))) := h3
  have H4 : Hid (Row w 27 sl xs) := h4
  have H5 : Hid (∀ g, sl.ownBlock = some g → N + 1 < g) := h5
  have H6 : Hid (All2 (RefP n w (fun m => N + 1 < m ∧ sl.ownBlock ≠ some m)) st xs) := h6
  clear HV h1 h2 h3 h4 h5 h6 hp hE hsk hval
  go_enter Tryz.func63, Tryz.ntmps63
  go_wp2_with fail
  refine HV'.out.mono ?_
  rintro e w1 ⟨x, er, k1, lg1, rfl, hx1, hb1, hp1, hres⟩
  have g1 : w1.heap[N]? = some (.cells #[.pointer (some ⟨b, 0, none⟩)] 50 (0, 0)) := (hb1.block N (by omega) (by intro e; injection e; omega)).trans H1.out
  have g3 : w1.heap[N + 1]? = some (.cells #[sl] 80 (0, 0)) := (hb1.block (N + 1) hNw (by intro e; injection e; omega)).trans H3.out
  have g4 : Row w1 27 sl xs := H4.out.same (fun g hg => hb1.block g (H4.out.lt hg) (by intro e; injection e; have := H5.out g hg; omega))
  have g6 : All2 (RefP n w1 (fun m => N + 1 < m ∧ sl.ownBlock ≠ some m)) st xs := all2_keepP H6.out (fun k hk hlt => ⟨hb1.block k hlt (by intro e; injection e; omega), hk⟩)
  have c3 : w1.cell? ⟨N + 1, 0, none⟩ = some sl := by simp [World.cell?, g3]
  have hsz1 := hb1.size
  have HP1 : Hid (PS w1 b s k1 op lg1 J) := hp1
  have G1 : Hid (w1.heap[N]? = some (.cells #[.pointer (some ⟨b, 0, none⟩)] 50 (0, 0))) := g1
  have G3 : Hid (w1.heap[N + 1]? = some (.cells #[sl] 80 (0, 0))) := g3
  have G4 : Hid (Row w1 27 sl xs) := g4
  have G6 : Hid (All2 (RefP n w1 (fun m => N + 1 < m ∧ sl.ownBlock ≠ some m)) st xs) := g6
  have hslw : Hid (∀ g, sl.ownBlock = some g → g < w.heap.size) := fun g hg => H4.out.lt hg
  clear H1 H3 H4 H6 HV' g1 g3 g4 g6 hp1 c1
  obtain ⟨X, hX⟩ : ∃ X, X = x := ⟨_, rfl⟩
  have HX : Hid (X = x) := hX
  have hX1 : X.oneCell' = true := by rw [hX]; exact hx1.one
  rw [← hX] at hres
  clear hX
  rcases hx1 with rfl | ⟨tx, vx, rfl⟩
  all_goals
   go_wp2_with (at_builtin; refine app_one rfl (.tmp 10) (.tmp 12) 80 27 rfl .nilIface 16 info_val rfl Tryz.underlying80 (by decide) sl xs rfl ?h1 _ _ X rfl ?h2 hX1 ?h3 _ rfl ?_)
   case h1 => exact World.ownsRow.alloc G4.out _
   case h2 => rw [HX.out]; exact cell_new rfl
   case h3 => omega
   intro g cap w2 hrow2 hgr hat hlt
   have hN1 : w2.heap[N + 1]? = some (.cells #[sl] 80 (0, 0)) := by
     rw [hgr.block (N + 1) (by simp; omega) (by intro e; have := H5.out _ e.symm; omega)]; exact heap_old G3.out
   have hN0 : w2.heap[N]? = some (.cells #[.pointer (some ⟨b, 0, none⟩)] 50 (0, 0)) := by
     rw [hgr.block N (by simp; omega) (by intro e; have := H5.out _ e.symm; omega)]; exact heap_old G1.out
   have cN : w2.cell? ⟨N + 1, 0, none⟩ = some sl := by simp [World.cell?, hN1]
   have fN : w2.frozen? ⟨N + 1, 0, none⟩ = false := by simp [World.frozen?, hN1]
   have hgN : N + 1 < g := by
     rcases hat with h | h
     · exact H5.out g h
     · have h' : g = w1.heap.size + 1 := h; omega
   have HGR := hid_of hgr
   have HROW := hid_of hrow2
   have HAT := hid_of hat
   have HN1 := hid_of hN1
   have HN0 := hid_of hN0
   clear hgr hrow2 hat hN1 hN0 c3
   go_wp2_with fail
   go_ret
   have hsz2 : w1.heap.size + 1 ≤ w2.heap.size := by have := HGR.out.size; simpa using this
   have hold : ∀ i, i < w1.heap.size → i ≠ N + 1 → sl.ownBlock ≠ some i → (w2.setCell ⟨N + 1, 0, none⟩ (.slice (some ⟨g, 0, none⟩) (xs.length + 1) cap)).heap[i]? = w1.heap[i]? := by
     intro i hi hne hsl
     rw [Below.heap_setCell _ _ _ _ (by simpa using hne), HGR.out.block i (by simp; omega) (fun e => hsl e.symm), Below.heap_alloc _ _ _ hi]
   refine ⟨er, k1, lg1, rfl, ?_, ?_, ⟨_, heap_setCell_at HN1.out _⟩, ?_⟩
   · have h1 : Bel N b w w1 := Bel.of_but hb1 hN
     refine h1.trans ⟨?_, ?_, ?_, ?_, ?_⟩
     · exact HGR.out.os
     · exact HGR.out.tape
     · exact HGR.out.output
     · simp [World.setCell]; omega
     · intro i hi hne
       exact hold i (by omega) (by omega) (fun e => by have := H5.out i e; omega)
   · have hbw := lt_of_heap HP1.out.1
     have hjw := lt_of_heap HP1.out.2.1
     have hJN : 5 < N := by omega
     exact ⟨(hold b hbw (by omega) (fun e => by have := H5.out b e; omega)).trans HP1.out.1, (hold _ hjw (by omega) (fun e => by have := H5.out _ e; omega)).trans HP1.out.2.1, HP1.out.2.2⟩
   · show StepIs _ _ _ _ _ _ _ _
     have hres' := hres.out
     rw [itemStep]
     cases hpv : pvalQ n s j lg with
     | error p => rw [hpv] at hres'; exact hres'
     | ok r =>
       rw [hpv] at hres'
       obtain ⟨r1, r2, r3, r4⟩ := hres'
       have hok := item_ok s hs n j lg r.1 r.2.1 r.2.2 hj (pval_ofQ hpv)
       refine ⟨r1, r2, r3, ?_, by omega, by omega⟩
       refine ⟨(Below.heap_setCell _ _ _ _ (by show N ≠ N + 1; omega)).trans HN0.out, by have := H2.out; rw [List.length_append, List.length_singleton]; omega, .slice (some ⟨g, 0, none⟩) (xs.length + 1) cap, xs ++ [X], heap_setCell_at HN1.out _, ?_, ?_, ?_⟩
       · exact Row.same HROW.out (fun i hi => Below.heap_setCell _ _ _ _ (by simp [Value.ownBlock] at hi; show i ≠ N + 1; omega))
       · intro i hi; simp [Value.ownBlock] at hi; omega
       · have key : ∀ i, N + 1 < i ∧ sl.ownBlock ≠ some i → i < w1.heap.size → (w2.setCell ⟨N + 1, 0, none⟩ (.slice (some ⟨g, 0, none⟩) (xs.length + 1) cap)).heap[i]? = w1.heap[i]? ∧ (N + 1 < i ∧ (Value.slice (some ⟨g, 0, none⟩) (xs.length + 1) cap).ownBlock ≠ some i) := by
           intro i hi hlt
           refine ⟨hold i hlt (by omega) hi.2, hi.1, ?_⟩
           intro e
           simp [Value.ownBlock] at e
           subst e
           rcases HAT.out with h | h
           · exact hi.2 h
           · have h' : g = w1.heap.size + 1 := h; omega
         refine All2.snoc (RefP.keep n r4 ?_) (all2_keepP G6.out key)
         intro i hi hlt
         exact key i ⟨by omega, fun e => by have := hslw.out i e; omega⟩ hlt

theorem eg_list : ∀ args W, (callFunc 63 args).run Tryz.prog W = .ok (.enter 63 args) W := enters_of Tryz.func63 (by kernel_rfl) rfl

set_option maxHeartbeats 4000000 in
theorem plist_any (n : Nat) (hval : PValSaid n) (b : Nat) (s : ByteArray) (k : Nat) (op : Int) (lg : Bool) (w : World) (J : Addr) (hop : op + (n : Int) = 12) (hop0 : 0 ≤ op) (hp : PS w b s k op lg J) (hE : Env w) (hG : 16 ≤ b) (hs : s.size ≤ 1000) (hk : k ≤ s.size) (hk0 : 1 ≤ k) :
    Calls Tryz.prog 41 #[.pointer (some ⟨b, 0, none⟩)] w fun e w' => ∃ x er k' lg', e = .returned (.tuple #[x, er]) ∧ IsIf x ∧ But b w w' ∧ PS w' b s k' op lg' J ∧
      Hid (PRes (n + 1) J ((listF (pvalQ n s) s (s.size + 1) true (skip s k) lg []).map fun r => (VT.list r.1, r.2)) w' w.heap.size x er k' lg') := by
  have hbw := lt_of_heap hp.1
  obtain ⟨N, hN⟩ : ∃ N, N = w.heap.size := ⟨_, rfl⟩
  have HN : Hid (N = w.heap.size) := hN
  have hbN : b < N := by omega
  obtain ⟨W, hW⟩ : ∃ W, W = (w.alloc (.cells #[.pointer (some ⟨b, 0, none⟩)] 50)).alloc (.cells #[.slice none 0 0] 80) := ⟨_, rfl⟩
  have hBW : But b w W := by rw [hW]; exact ((But.refl b w).alloc _).alloc _
  have hpW : PS W b s k op lg J := by rw [hW]; exact (hp.alloc _).alloc _
  have hEW : Env W := hE.but hBW hG
  have hin : PList n N b [] k W := by
    subst hW
    refine ⟨?_, Nat.zero_le _, .slice none 0 0, [], ?_, Row.nil _ _, fun g hg => by simp [Value.ownBlock] at hg, trivial⟩
    · exact heap_old (heap_new hN.symm)
    · exact heap_new (by simp; omega)
  have hrow := row_any 63 #[.pointer (some ⟨N, 0, none⟩), .pointer (some ⟨N + 1, 0, none⟩)] (PList n N b) (itemStep n s) (listF (pvalQ n s) s) b s op 93 J N eg_list (by omega) (listLaw n s) (fun st j j' w w' h hj hb => PList.but h hj hb hbN) (LVar N) (fun w w' h hb => h.but hb hbN) (fun st j w h => by obtain ⟨_, _, sl, _, h3, _⟩ := h; exact ⟨sl, h3⟩)
    (fun st j lg w h1 h2 h3 h4 h5 h6 => list1_any n hval b s op J N hop hop0 hG hbN hs st j lg w h1 h2 h3 h4 h5 h6) k lg W [] hpW hEW hG hbN (by rw [hW]; simp; omega) hs hk hk0 hin
  have HROW := hid_of hrow
  have HBW : Hid (But b w W) := hBW
  have c1 : (w.alloc (.cells #[.pointer (some ⟨b, 0, none⟩)] 50)).cell? ⟨w.heap.size, 0, none⟩ = some (.pointer (some ⟨b, 0, none⟩)) := by
    have := cell_new (W := w) (n := w.heap.size) (x := .pointer (some ⟨b, 0, none⟩)) (t := 50) rfl
    rw [Addr.add_lit] at this; exact this
  have HWe : Hid (W = (w.alloc (.cells #[.pointer (some ⟨b, 0, none⟩)] 50)).alloc (.cells #[.slice none 0 0] 80)) := hW
  have cW : ((w.alloc (.cells #[.pointer (some ⟨b, 0, none⟩)] 50)).alloc (.cells #[.slice none 0 0] 80)).cell? ⟨w.heap.size, 0, none⟩ = some (.pointer (some ⟨b, 0, none⟩)) := by
    rw [← hW]; have := hin.1; rw [hN] at this; simp [World.cell?, this]
  clear hrow hBW hpW hEW hin hp hE hval hW hN
  go_enter Tryz.func41, Tryz.ntmps41
  go_wp2_with fail
  have hN' := HN.out
  subst hN'
  have hW' := HWe.out
  subst hW'
  refine HROW.out.mono ?_
  rintro e w1 ⟨er, k1, lg1, rfl, hbel1, hp1, ⟨sl, hsl⟩, hst⟩
  have csl : w1.cell? ⟨w.heap.size + 1, 0, none⟩ = some sl := by simp [World.cell?, hsl]
  have HSL := hid_of hsl
  clear hsl
  go_wp2_with fail
  go_ret2
  have hbut : But b w w1 := Bel.but ((Bel.of_but HBW.out (Nat.le_refl _)).trans hbel1)
  refine ⟨_, er, k1, lg1, rfl, .inr ⟨_, _, rfl⟩, hbut, hp1, ?_⟩
  show PRes _ _ _ _ _ _ _ _ _
  have hst' := hst.out
  unfold StepIs at hst'
  unfold PRes
  cases hL : listF (pvalQ n s) s (s.size + 1) true (skip s k) lg [] with
  | error p => rw [hL] at hst'; exact hst'
  | ok r =>
    rw [hL] at hst'
    obtain ⟨q1, q2, q3, ⟨_, _, sl', xs, q4, q5, q6, q7⟩, _⟩ := hst'
    have hse : sl' = sl := by
      have h := HSL.out
      rw [q4] at h
      injection h with h
      injection h with h
      have := congrArg (fun a : Array Value => a[0]?) h
      simpa using this
    subst hse
    exact ⟨q1, q2, q3, sl', xs, rfl, q5, fun g hg => by have := q6 g hg; omega, q7.mono (fun a c hab => RefP.keep n hab (fun i hi _ => ⟨rfl, by omega⟩))⟩

end Go.Proofs.YtjaoocincdoaaaaGreatDoor

namespace Go.Proofs.YtjaoocincdoaaaaGreatDoor
open Go.RowKit J

set_option linter.unusedVariables false

theorem keyR_ok {s : ByteArray} {k : Nat} (hk : k ≤ s.size) (h : ¬ 0 ≤ (keyR s k).2.2) : k ≤ (keyR s k).2.1 ∧ (keyR s k).2.1 ≤ s.size ∧ skip s (keyR s k).2.1 = (keyR s k).2.1 := by
  rw [keyR] at h ⊢
  by_cases h1 : gb s k ≠ 34
  · rw [if_pos h1] at h; simp only at h; omega
  · rw [if_neg h1] at h ⊢
    by_cases h2 : 0 ≤ (textR s k).2.2
    · rw [if_pos h2] at h; exact absurd h2 h
    · rw [if_neg h2] at h ⊢
      by_cases h3 : gb s (skip s (textR s k).2.1) ≠ 58
      · rw [if_pos h3] at h; simp only at h; omega
      · rw [if_neg h3]
        have r1 := (textR_rel (s := s) (k := k) (by omega)).2
        have r3 := skip_le s (textR s k).2.1
        have r4 := lt_of_gb (s := s) (k := skip s (textR s k).2.1) (by omega)
        have r5 := skip_le s (skip s (textR s k).2.1 + 1)
        exact ⟨by simp only; omega, skip_size s _ r4, skip_skip s _⟩

/-- An object that is being read: the reader's pointer lies at N, the object at N + 1. -/
def PObj (n N b : Nat) (st : List ByteArray × List (VT n)) (j : Nat) (w : World) : Prop :=
  w.heap[N]? = some (.cells #[.pointer (some ⟨b, 0, none⟩)] 50 (0, 0)) ∧ st.2.length ≤ j ∧
  ∃ sl xs, w.heap[N + 1]? = some (.cells #[sl] 83 (0, 0)) ∧ Mem w sl st.1 xs ∧ (∀ g, sl.ownBlock = some g → N + 1 < g) ∧ All2 (RefP n w (fun m => N + 1 < m ∧ sl.ownBlock ≠ some m)) st.2 xs

theorem PObj.but {n N b : Nat} {st : List ByteArray × List (VT n)} {j j' : Nat} {w w' : World} (h : PObj n N b st j w) (hj : j ≤ j') (hb : But b w w') (hbN : b < N) : PObj n N b st j' w' := by
  obtain ⟨h1, h2, sl, xs, h3, h4, h5, h6⟩ := h
  refine ⟨(hb.block N (lt_of_heap h1) (by intro e; injection e; omega)).trans h1, by omega, sl, xs, (hb.block _ (lt_of_heap h3) (by intro e; injection e; omega)).trans h3, h4.same (fun g hg => hb.block g (h4.lt hg) (by intro e; injection e; have := h5 g hg; omega)), h5, all2_keepP h6 (fun k hk hlt => ⟨hb.block k hlt (by intro e; injection e; omega), hk⟩)⟩

/-- The object's variable lies there. -/
def OVar (N : Nat) (w : World) : Prop := ∃ sl, w.heap[N + 1]? = some (.cells #[sl] 83 (0, 0))
theorem OVar.but {N b : Nat} {w w' : World} (h : OVar N w) (hb : But b w w') (hbN : b < N) : OVar N w' := by
  obtain ⟨sl, h⟩ := h
  exact ⟨sl, (hb.block _ (lt_of_heap h) (by intro e; injection e; omega)).trans h⟩
theorem PObj.var {n N b : Nat} {st : List ByteArray × List (VT n)} {j : Nat} {w : World} (h : PObj n N b st j w) : OVar N w := by
  obtain ⟨_, _, sl, _, h3, _⟩ := h; exact ⟨sl, h3⟩

set_option maxRecDepth 100000 in
set_option maxHeartbeats 4000000 in
theorem obj1_any (n : Nat) (hval : PValSaid n) (b : Nat) (s : ByteArray) (op : Int) (J : Addr) (N : Nat) (hop : op + (n : Int) = 12) (hop0 : 0 ≤ op) (hG : 16 ≤ b) (hbN : b < N) (hs : s.size ≤ 1000)
    (st : List ByteArray × List (VT n)) (j : Nat) (lg : Bool) (w : World) (hinv : PObj n N b st j w) (hN : N ≤ w.heap.size) (hp : PS w b s j op lg J) (hE : Env w) (hsk : skip s j = j) (hj : j ≤ s.size) :
    Calls Tryz.prog 60 #[.pointer (some ⟨N, 0, none⟩), .pointer (some ⟨N + 1, 0, none⟩)] w fun e w' => ∃ er k' lg', e = .returned er ∧ Bel N b w w' ∧ PS w' b s k' op lg' J ∧ OVar N w' ∧ Hid (StepIs s J (memStep n s st j lg) er j k' lg' (fun st' => PObj n N b st' k' w')) := by
  have HV : Hid (PValSaid n) := hval
  have HI : Hid (PObj n N b st j w) := hinv
  have hi := hinv
  obtain ⟨h1, h2, sl0, xs0, h3, _⟩ := hi
  have c1 : w.cell? ⟨N, 0, none⟩ = some (.pointer (some ⟨b, 0, none⟩)) := by simp [World.cell?, h1]
  have hNw : N + 1 < w.heap.size := lt_of_heap h3
  have HP : Hid (PS w b s j op lg J) := hp
  have HE : Hid (Env w) := hE
  obtain ⟨key, kk, kb, hK⟩ : ∃ key kk kb, keyR s j = (key, kk, kb) := ⟨_, _, _, rfl⟩
  have hkey := key_any b s j op lg w hp hE.1 hG hj hs
  rw [hK] at hkey
  have HKEY := hid_of hkey
  have HK : Hid (keyR s j = (key, kk, kb)) := hK
  have HKO : Hid (¬ 0 ≤ kb → j ≤ kk ∧ kk ≤ s.size ∧ skip s kk = kk) := fun h => by have := keyR_ok (s := s) (k := j) hj (by rw [hK]; exact h); rw [hK] at this; exact this
  clear hkey hK hp hE hinv h1 h2 h3 hval hsk
  by_cases hkb : 0 ≤ kb
  · have HF : Hid (memStep n s st j lg = .error kk) := by show _ = _; rw [memStep, HK.out]; simp only; rw [if_pos hkb]
    go_enter Tryz.func60, Tryz.ntmps60
    go_wp2_with fail
    refine HKEY.out.mono ?_
    rintro e w1 ⟨rfl, hb1, hp1⟩
    rw [werr, if_neg (by simp only; omega), errV]
    go_wp2_with fail
    go_ret
    refine ⟨errV J kk, kk, lg, rfl, Bel.of_but hb1 hN, hp1, HI.out.var.but hb1 hbN, ?_⟩
    show StepIs _ _ _ _ _ _ _ _
    rw [HF.out]; rfl
  · obtain ⟨hk1, hk2, hk3⟩ := HKO.out hkb
    have HK3 : Hid (skip s kk = kk) := hk3
    clear hk3
    go_enter Tryz.func60, Tryz.ntmps60
    go_wp2_with fail
    refine HKEY.out.mono ?_
    rintro e w1 ⟨rfl, hb1, hp1⟩
    rw [werr, if_pos (by simp only; omega)]
    have HI1 : Hid (PObj n N b st j w1) := HI.out.but (Nat.le_refl _) hb1 hbN
    have c1' : w1.cell? ⟨N, 0, none⟩ = some (.pointer (some ⟨b, 0, none⟩)) := by simp [World.cell?, HI1.out.1]
    have HE1 : Hid (Env w1) := HE.out.but hb1 hG
    have HP1 : Hid (PS w1 b s kk op lg J) := hp1
    have hsz1 := hb1.size
    clear c1 hp1
    go_wp2_with fail
    refine (HV.out b s kk op lg w1 J hop hop0 HP1.out HE1.out hG hs hk2 HK3.out).mono ?_
    rintro e w2 ⟨x, er, k2, lg2, rfl, hx2, hb2, hp2, hres⟩
    have hi2 : PObj n N b st j w2 := HI1.out.but (Nat.le_refl _) hb2 hbN
    obtain ⟨g1, g2, sl, xs, g3, g4, g5, g6⟩ := hi2
    have c3 : w2.cell? ⟨N + 1, 0, none⟩ = some sl := by simp [World.cell?, g3]
    have hsz2 := hb2.size
    have HP2 : Hid (PS w2 b s k2 op lg2 J) := hp2
    have G1 : Hid (w2.heap[N]? = some (.cells #[.pointer (some ⟨b, 0, none⟩)] 50 (0, 0))) := g1
    have G2 : Hid (st.2.length ≤ j) := g2
    have G3 : Hid (w2.heap[N + 1]? = some (.cells #[sl] 83 (0, 0))) := g3
    have G4 : Hid (Mem w2 sl st.1 xs) := g4
    have H5 : Hid (∀ g, sl.ownBlock = some g → N + 1 < g) := g5
    have G6 : Hid (All2 (RefP n w2 (fun m => N + 1 < m ∧ sl.ownBlock ≠ some m)) st.2 xs) := g6
    have hslw : Hid (∀ g, sl.ownBlock = some g → g < w1.heap.size) := by
      intro g hg
      obtain ⟨_, _, sl1, xs1, q3, q4, _⟩ := HI1.out
      have : sl1 = sl := by
        have h1 := (hb2.block (N + 1) (lt_of_heap q3) (by intro e; injection e; omega)).trans q3
        rw [g3] at h1
        injection h1 with h1
        injection h1 with h1
        have := congrArg (fun a : Array Value => a[0]?) h1
        simpa using this.symm
      subst this
      exact q4.lt hg
    have hxl : xs.length ≤ 2000 := by rw [← g6.length]; omega
    clear g1 g2 g3 g4 g5 g6 hp2 c1' HI HI1
    go_wp2_with fail
    refine (pput_any st.1 xs key x sl w2 G4.out hx2 hxl).mono ?_
    rintro e w3 ⟨sl', rfl, hm3, hc3, ho3⟩
    have hsz3 := hc3.size
    have hN1 : w3.heap[N + 1]? = some (.cells #[sl] 83 (0, 0)) := (hc3.block (N + 1) (by omega) (fun e => by have := H5.out _ e; omega)).trans G3.out
    have hN0 : w3.heap[N]? = some (.cells #[.pointer (some ⟨b, 0, none⟩)] 50 (0, 0)) := (hc3.block N (by omega) (fun e => by have := H5.out _ e; omega)).trans G1.out
    have cN : w3.cell? ⟨N + 1, 0, none⟩ = some sl := by simp [World.cell?, hN1]
    have fN : w3.frozen? ⟨N + 1, 0, none⟩ = false := by simp [World.frozen?, hN1]
    have HM3 := hid_of hm3
    have HC3 := hid_of hc3
    have HO3 := hid_of ho3
    have HN1 := hid_of hN1
    have HN0 := hid_of hN0
    obtain ⟨o', n', c', hsh⟩ : ∃ o' n' c', sl' = .slice o' n' c' := by rcases hm3.len with ⟨h, _⟩ | ⟨_, _, h, _⟩ <;> exact ⟨_, _, _, h⟩
    have HSH := hid_of hsh
    rw [hsh]
    clear hm3 hc3 ho3 hN1 hN0 c3 hsh
    go_wp2_with fail
    go_ret
    rw [← HSH.out]
    have hold : ∀ i, i < w2.heap.size → i ≠ N + 1 → sl.ownBlock ≠ some i → (w3.setCell ⟨N + 1, 0, none⟩ sl').heap[i]? = w2.heap[i]? := by
      intro i hi hne hsl
      rw [Below.heap_setCell _ _ _ _ (by simpa using hne), HC3.out.block i hi hsl]
    refine ⟨er, k2, lg2, rfl, ?_, ?_, ⟨_, heap_setCell_at HN1.out _⟩, ?_⟩
    · have h1 : Bel N b w w2 := Bel.of_but (hb1.trans hb2) hN
      refine h1.trans ⟨?_, ?_, ?_, ?_, ?_⟩
      · exact HC3.out.os
      · exact HC3.out.tape
      · exact HC3.out.output
      · simp [World.setCell]; omega
      · intro i hi hne
        exact hold i (by omega) (by omega) (fun e => by have := H5.out i e; omega)
    · have hbw := lt_of_heap HP2.out.1
      have hjw := lt_of_heap HP2.out.2.1
      exact ⟨(hold b hbw (by omega) (fun e => by have := H5.out b e; omega)).trans HP2.out.1, (hold _ hjw (by omega) (fun e => by have := H5.out _ e; omega)).trans HP2.out.2.1, HP2.out.2.2⟩
    · show StepIs _ _ _ _ _ _ _ _
      have hres' := hres.out
      rw [memStep, HK.out]
      simp only
      rw [if_neg (by omega)]
      cases hpv : pvalQ n s kk lg with
      | error p => rw [hpv] at hres'; exact hres'
      | ok r =>
        rw [hpv] at hres'
        obtain ⟨r1, r2, r3, r4⟩ := hres'
        have hok := item_ok s hs n kk lg r.1 r.2.1 r.2.2 hk2 (pval_ofQ hpv)
        refine ⟨r1, r2, r3, ?_, by omega, by omega⟩
        have hpl := putP_length st.1 st.2 key r.1
        refine ⟨(Below.heap_setCell _ _ _ _ (by show N ≠ N + 1; omega)).trans HN0.out, by have := G2.out; show (putP st.1 st.2 key r.1).length ≤ _; omega, sl', putP st.1 xs key x, heap_setCell_at HN1.out _, ?_, ?_, ?_⟩
        · exact Mem.same HM3.out (fun i hi => Below.heap_setCell _ _ _ _ (by
            show i ≠ N + 1
            rcases HO3.out i hi with h | h
            · have := H5.out i h; omega
            · omega))
        · intro i hi
          rcases HO3.out i hi with h | h
          · exact H5.out i h
          · omega
        · have key' : ∀ i, N + 1 < i ∧ sl.ownBlock ≠ some i → i < w2.heap.size → (w3.setCell ⟨N + 1, 0, none⟩ sl').heap[i]? = w2.heap[i]? ∧ (N + 1 < i ∧ sl'.ownBlock ≠ some i) := by
            intro i hi hlt
            refine ⟨hold i hlt (by omega) hi.2, hi.1, ?_⟩
            intro e
            rcases HO3.out i e with h | h
            · exact hi.2 h
            · omega
          refine All2.put (RefP.keep n r4 ?_) key ?_ (all2_keepP G6.out key')
          · intro i hi hlt
            exact key' i ⟨by omega, fun e => by have := hslw.out i e; omega⟩ hlt
          · rw [G4.out.1, G6.out.length]

theorem eg_obj : ∀ args W, (callFunc 60 args).run Tryz.prog W = .ok (.enter 60 args) W := enters_of Tryz.func60 (by kernel_rfl) rfl

set_option maxHeartbeats 4000000 in
theorem pobj_any (n : Nat) (hval : PValSaid n) (b : Nat) (s : ByteArray) (k : Nat) (op : Int) (lg : Bool) (w : World) (J : Addr) (hop : op + (n : Int) = 12) (hop0 : 0 ≤ op) (hp : PS w b s k op lg J) (hE : Env w) (hG : 16 ≤ b) (hs : s.size ≤ 1000) (hk : k ≤ s.size) (hk0 : 1 ≤ k) :
    Calls Tryz.prog 40 #[.pointer (some ⟨b, 0, none⟩)] w fun e w' => ∃ x er k' lg', e = .returned (.tuple #[x, er]) ∧ IsIf x ∧ But b w w' ∧ PS w' b s k' op lg' J ∧
      Hid (PRes (n + 1) J ((objF (pvalQ n s) s (s.size + 1) true (skip s k) lg [] []).map fun r => (VT.obj r.1.1 r.1.2, r.2)) w' w.heap.size x er k' lg') := by
  have hbw := lt_of_heap hp.1
  obtain ⟨N, hN⟩ : ∃ N, N = w.heap.size := ⟨_, rfl⟩
  have HN : Hid (N = w.heap.size) := hN
  have hbN : b < N := by omega
  obtain ⟨W, hW⟩ : ∃ W, W = (w.alloc (.cells #[.pointer (some ⟨b, 0, none⟩)] 50)).alloc (.cells #[.slice none 0 0] 83) := ⟨_, rfl⟩
  have hBW : But b w W := by rw [hW]; exact ((But.refl b w).alloc _).alloc _
  have hpW : PS W b s k op lg J := by rw [hW]; exact (hp.alloc _).alloc _
  have hEW : Env W := hE.but hBW hG
  have hin : PObj n N b ([], []) k W := by
    subst hW
    refine ⟨?_, Nat.zero_le _, .slice none 0 0, [], ?_, Mem.nil _, fun g hg => by simp [Value.ownBlock] at hg, trivial⟩
    · exact heap_old (heap_new hN.symm)
    · exact heap_new (by simp; omega)
  have hrow := row_any 60 #[.pointer (some ⟨N, 0, none⟩), .pointer (some ⟨N + 1, 0, none⟩)] (PObj n N b) (memStep n s) (objT n s) b s op 125 J N eg_obj (by omega) (objLaw n s) (fun st j j' w w' h hj hb => PObj.but h hj hb hbN) (OVar N) (fun w w' h hb => h.but hb hbN) (fun st j w h => h.var)
    (fun st j lg w h1 h2 h3 h4 h5 h6 => obj1_any n hval b s op J N hop hop0 hG hbN hs st j lg w h1 h2 h3 h4 h5 h6) k lg W ([], []) hpW hEW hG hbN (by rw [hW]; simp; omega) hs hk hk0 hin
  have HROW := hid_of hrow
  have HBW : Hid (But b w W) := hBW
  have c1 : (w.alloc (.cells #[.pointer (some ⟨b, 0, none⟩)] 50)).cell? ⟨w.heap.size, 0, none⟩ = some (.pointer (some ⟨b, 0, none⟩)) := by
    have := cell_new (W := w) (n := w.heap.size) (x := .pointer (some ⟨b, 0, none⟩)) (t := 50) rfl
    rw [Addr.add_lit] at this; exact this
  have HWe : Hid (W = (w.alloc (.cells #[.pointer (some ⟨b, 0, none⟩)] 50)).alloc (.cells #[.slice none 0 0] 83)) := hW
  have cW : ((w.alloc (.cells #[.pointer (some ⟨b, 0, none⟩)] 50)).alloc (.cells #[.slice none 0 0] 83)).cell? ⟨w.heap.size, 0, none⟩ = some (.pointer (some ⟨b, 0, none⟩)) := by
    rw [← hW]; have := hin.1; rw [hN] at this; simp [World.cell?, this]
  clear hrow hBW hpW hEW hin hp hE hval hW hN
  go_enter Tryz.func40, Tryz.ntmps40
  go_wp2_with fail
  have hN' := HN.out
  subst hN'
  have hW' := HWe.out
  subst hW'
  refine HROW.out.mono ?_
  rintro e w1 ⟨er, k1, lg1, rfl, hbel1, hp1, ⟨sl, hsl⟩, hst⟩
  have csl : w1.cell? ⟨w.heap.size + 1, 0, none⟩ = some sl := by simp [World.cell?, hsl]
  have HSL := hid_of hsl
  clear hsl
  go_wp2_with fail
  go_ret2
  have hbut : But b w w1 := Bel.but ((Bel.of_but HBW.out (Nat.le_refl _)).trans hbel1)
  refine ⟨_, er, k1, lg1, rfl, .inr ⟨_, _, rfl⟩, hbut, hp1, ?_⟩
  show PRes _ _ _ _ _ _ _ _ _
  have hst' := hst.out
  unfold StepIs objT at hst'
  unfold PRes
  cases hL : objF (pvalQ n s) s (s.size + 1) true (skip s k) lg [] [] with
  | error p => rw [hL] at hst'; exact hst'
  | ok r =>
    rw [hL] at hst'
    obtain ⟨q1, q2, q3, ⟨_, _, sl', xs, q4, q5, q6, q7⟩, _⟩ := hst'
    have hse : sl' = sl := by
      have h := HSL.out
      rw [q4] at h
      injection h with h
      injection h with h
      have := congrArg (fun a : Array Value => a[0]?) h
      simpa using this
    subst hse
    exact ⟨q1, q2, q3, sl', xs, rfl, q5, fun g hg => by have := q6 g hg; omega, q7.mono (fun a c hab => RefP.keep n hab (fun i hi _ => ⟨rfl, by omega⟩))⟩

end Go.Proofs.YtjaoocincdoaaaaGreatDoor

namespace Go.Proofs.YtjaoocincdoaaaaGreatDoor
open Go.RowKit J

set_option linter.unusedVariables false

def LRes (J : Addr) (R : Except Nat (Lf × Nat × Bool)) (x er : Value) (k' : Nat) (lg' : Bool) : Prop :=
  match R with
  | .error p => er = errV J p
  | .ok r => er = .nilIface ∧ k' = r.2.1 ∧ lg' = r.2.2 ∧ x = plf r.1

theorem pres_leaf {n : Nat} {J : Addr} {s : ByteArray} {k : Nat} {lg : Bool} {w' : World} {M : Nat} {x er : Value} {k' : Nat} {lg' : Bool} (hsk : skip s k = k) (h91 : gb s k ≠ 91) (h123 : gb s k ≠ 123) (h : LRes J (pleafQ s k lg) x er k' lg') : PRes n J (pvalQ n s k lg) w' M x er k' lg' := by
  unfold PRes LRes at *
  rw [pvalQ_leaf (by rw [hsk]; exact h91) (by rw [hsk]; exact h123), hsk]
  cases hp : pleafQ s k lg with
  | error p => rw [hp] at h; exact h
  | ok r =>
    rw [hp] at h
    obtain ⟨h1, h2, h3, h4⟩ := h
    exact ⟨h1, h2, h3, by rw [h4]; exact RefP.leaf n w' _ r.1⟩

theorem werr_yes {J : Addr} {r : Nat × Int} (h : r.2 < 0) : werr J r = .nilIface := by rw [werr, if_pos h]
theorem werr_no {J : Addr} {r : Nat × Int} (h : ¬ r.2 < 0) : werr J r = errV J r.1 := by rw [werr, if_neg h]

theorem lres_null {J : Addr} {s : ByteArray} {k : Nat} {lg : Bool} (hg : gb s k = 110) : LRes J (pleafQ s k lg) (plf Lf.null) (werr J (wordR s k (-1) [110, 117, 108, 108])) (wordR s k (-1) [110, 117, 108, 108]).1 lg := by
  have hat := wordR_at (s := s) [110, 117, 108, 108] k
  unfold LRes
  rw [pleafQ, if_neg (by omega), if_neg (by rw [hg]; decide), if_pos hg]
  by_cases h : (wordR s k (-1) [110, 117, 108, 108]).2 < 0
  · rw [if_pos h]; exact ⟨werr_yes h, rfl, rfl, rfl⟩
  · rw [if_neg h, werr_no h, (at_err hat h).1]
theorem lres_false {J : Addr} {s : ByteArray} {k : Nat} {lg : Bool} (hg : gb s k = 102) : LRes J (pleafQ s k lg) (plf (Lf.truth false)) (werr J (wordR s k (-1) [102, 97, 108, 115, 101])) (wordR s k (-1) [102, 97, 108, 115, 101]).1 lg := by
  have hat := wordR_at (s := s) [102, 97, 108, 115, 101] k
  unfold LRes
  rw [pleafQ, if_neg (by omega), if_neg (by rw [hg]; decide), if_neg (by omega), if_pos hg]
  by_cases h : (wordR s k (-1) [102, 97, 108, 115, 101]).2 < 0
  · rw [if_pos h]; exact ⟨werr_yes h, rfl, rfl, rfl⟩
  · rw [if_neg h, werr_no h, (at_err hat h).1]
theorem lres_true {J : Addr} {s : ByteArray} {k : Nat} {lg : Bool} (hg : gb s k = 116) : LRes J (pleafQ s k lg) (plf (Lf.truth true)) (werr J (wordR s k (-1) [116, 114, 117, 101])) (wordR s k (-1) [116, 114, 117, 101]).1 lg := by
  have hat := wordR_at (s := s) [116, 114, 117, 101] k
  unfold LRes
  rw [pleafQ, if_neg (by omega), if_neg (by rw [hg]; decide), if_neg (by omega), if_neg (by omega), if_pos hg]
  by_cases h : (wordR s k (-1) [116, 114, 117, 101]).2 < 0
  · rw [if_pos h]; exact ⟨werr_yes h, rfl, rfl, rfl⟩
  · rw [if_neg h, werr_no h, (at_err hat h).1]
theorem lres_str {J : Addr} {s : ByteArray} {k : Nat} {lg : Bool} (hg : gb s k = 34) : LRes J (pleafQ s k lg) (plf (Lf.str ⟨(textR s k).1.toArray⟩)) (werr J (textR s k).2) (textR s k).2.1 lg := by
  have hat := textR_at s k
  unfold LRes
  rw [pleafQ, if_pos hg]
  by_cases h : (textR s k).2.2 < 0
  · rw [if_pos h]; exact ⟨werr_yes h, rfl, rfl, rfl⟩
  · rw [if_neg h, werr_no h, (at_err hat h).1]
theorem numQ_not {s : ByteArray} {k : Nat} (h1 : gb s k ≠ 45) (h2 : isDig (gb s k) = false) : numQ s k = (none, k, (k : Int)) := by
  have h : numR s k = (none, k, (k : Int)) := by
    refine numR_none (by rw [if_neg h1]) ?_
    have h48 : gb s k ≠ 48 := by intro e; rw [e] at h2; cases h2
    rw [wholeE, if_neg h48, h2]; rfl
  rw [numQ_err (by rw [h]; simp only; omega), h]
theorem lres_num {J : Addr} {s : ByteArray} {k : Nat} {lg : Bool} {x er : Value} {lg' : Bool} (h34 : gb s k ≠ 34) (h110 : gb s k ≠ 110) (h102 : gb s k ≠ 102) (h116 : gb s k ≠ 116) (h : NumIs J (numQ s k) (decide (gb s k = 45)) lg (.returned (.tuple #[x, er])) lg') :
    LRes J (pleafQ s k lg) x er (numQ s k).2.1 lg' := by
  have hat := numQ_at s k
  unfold LRes
  rw [pleafQ, if_neg h34]
  by_cases hd : gb s k = 45 ∨ isDig (gb s k) = true
  · rw [if_pos hd]
    rcases h with ⟨h1, h2, h3⟩ | ⟨h1, h2, v, h3, h4⟩
    · rw [if_neg (by omega), (at_err hat (by omega)).1]
      injection h3 with h3; injection h3 with h3
      have := congrArg (fun a : Array Value => a[1]?) h3
      simpa using this
    · rw [if_pos h1]
      injection h4 with h4; injection h4 with h4
      have e1 := congrArg (fun a : Array Value => a[1]?) h4
      have e0 := congrArg (fun a : Array Value => a[0]?) h4
      refine ⟨by simpa using e1, rfl, h2, ?_⟩
      have e0' : x = .iface 76 (.int .i64 (if decide (gb s k = 45) then -(v.getD 0) else v.getD 0)) := by simpa using e0
      rw [e0', h3]
      simp only [decide_eq_true_eq]
      rfl
  · have h45 : gb s k ≠ 45 := fun e => hd (.inl e)
    have hdg : isDig (gb s k) = false := by cases hh : isDig (gb s k) with
      | false => rfl
      | true => exact absurd (.inr hh) hd
    rw [if_neg hd, if_neg h110, if_neg h102, if_neg h116]
    rw [numQ_not h45 hdg] at h
    rcases h with ⟨h1, h2, h3⟩ | ⟨h1, _⟩
    · injection h3 with h3; injection h3 with h3
      have := congrArg (fun a : Array Value => a[1]?) h3
      simpa using this
    · simp only at h1; omega

/-- The contract of 'nested' at a depth. -/
def PNestSaid (n : Nat) : Prop :=
  ∀ (b : Nat) (s : ByteArray) (k : Nat) (op : Int) (lg obj : Bool) (w : World) (J : Addr), op + (n : Int) = 12 → 0 ≤ op → PS w b s k op lg J → Env w → 16 ≤ b → s.size ≤ 1000 → k < s.size → gb s k = (if obj then 123 else 91) →
    Calls Tryz.prog 23 #[.pointer (some ⟨b, 0, none⟩)] w fun e w' => ∃ x er k' lg', e = .returned (.tuple #[x, er]) ∧ IsIf x ∧ But b w w' ∧ PS w' b s k' op lg' J ∧ Hid (PRes n J (brkQ n s k lg obj) w' w.heap.size x er k' lg')

set_option maxHeartbeats 4000000 in
theorem pvalue_any (n : Nat) (hnest : PNestSaid n) : PValSaid n := by
  intro b s k op lg w J hop hop0 hp hE hG hs hk hsk
  have HP : Hid (PS w b s k op lg J) := hp
  have HE : Hid (Env w) := hE
  have HSK : Hid (skip s k = k) := hsk
  have HNE : Hid (PNestSaid n) := hnest
  have HOP : Hid (op + (n : Int) = 12) := hop
  obtain ⟨c, hc⟩ : ∃ c, c = pk s k := ⟨_, rfl⟩
  have HC : Hid (pk s k = c) := hc.symm
  have HCG : Hid (∀ y : Int, 0 < y → c = y → gb s k = y) := fun y hy h => (pk_gb hy).1 (by rw [← hc]; exact h)
  have HCN : Hid (∀ y : Int, 0 < y → c ≠ y → gb s k ≠ y) := fun y hy h e => h (by rw [hc]; exact (pk_gb hy).2 e)
  clear hp hE hsk hnest hc hop
  rcases (show c = 110 ∨ c = 102 ∨ c = 116 ∨ c = 34 ∨ c = 91 ∨ c = 123 ∨ (c ≠ 110 ∧ c ≠ 102 ∧ c ≠ 116 ∧ c ≠ 34 ∧ c ≠ 91 ∧ c ≠ 123) from by omega) with rfl | rfl | rfl | rfl | rfl | rfl | ⟨n1, n2, n3, n4, n5, n6⟩
  · have HG : Hid (gb s k = 110) := HCG.out 110 (by omega) rfl
    clear HCG HCN
    go_enter Tryz.func12, Tryz.ntmps12
    go_wp2_with fail
    refine (peek_any b s k op lg _ HP.out hk hs).mono ?_
    rintro e w1 ⟨rfl, n1, rfl⟩
    rw [HC.out]
    go_wp2_with fail
    refine (pword_any b s ⟨#[110, 117, 108, 108]⟩ k op lg _ (HP.out.drewN _) hk hs (by decide) (by decide)).mono ?_
    rintro e w2 ⟨rfl, hb2, hp2⟩
    go_wp2_with fail
    go_ret2
    exact ⟨_, _, _, lg, rfl, plf_if Lf.null, ((But.refl _ _).drewN _).trans hb2, hp2, pres_leaf HSK.out (by rw [HG.out]; decide) (by rw [HG.out]; decide) (lres_null HG.out)⟩
  · have HG : Hid (gb s k = 102) := HCG.out 102 (by omega) rfl
    clear HCG HCN
    go_enter Tryz.func12, Tryz.ntmps12
    go_wp2_with fail
    refine (peek_any b s k op lg _ HP.out hk hs).mono ?_
    rintro e w1 ⟨rfl, n1, rfl⟩
    rw [HC.out]
    go_wp2_with fail
    refine (pword_any b s ⟨#[102, 97, 108, 115, 101]⟩ k op lg _ (HP.out.drewN _) hk hs (by decide) (by decide)).mono ?_
    rintro e w2 ⟨rfl, hb2, hp2⟩
    go_wp2_with fail
    go_ret2
    exact ⟨_, _, _, lg, rfl, plf_if (Lf.truth false), ((But.refl _ _).drewN _).trans hb2, hp2, pres_leaf HSK.out (by rw [HG.out]; decide) (by rw [HG.out]; decide) (lres_false HG.out)⟩
  · have HG : Hid (gb s k = 116) := HCG.out 116 (by omega) rfl
    clear HCG HCN
    go_enter Tryz.func12, Tryz.ntmps12
    go_wp2_with fail
    refine (peek_any b s k op lg _ HP.out hk hs).mono ?_
    rintro e w1 ⟨rfl, n1, rfl⟩
    rw [HC.out]
    go_wp2_with fail
    refine (pword_any b s ⟨#[116, 114, 117, 101]⟩ k op lg _ (HP.out.drewN _) hk hs (by decide) (by decide)).mono ?_
    rintro e w2 ⟨rfl, hb2, hp2⟩
    go_wp2_with fail
    go_ret2
    exact ⟨_, _, _, lg, rfl, plf_if (Lf.truth true), ((But.refl _ _).drewN _).trans hb2, hp2, pres_leaf HSK.out (by rw [HG.out]; decide) (by rw [HG.out]; decide) (lres_true HG.out)⟩
  · have HG : Hid (gb s k = 34) := HCG.out 34 (by omega) rfl
    clear HCG HCN
    go_enter Tryz.func12, Tryz.ntmps12
    go_wp2_with fail
    refine (peek_any b s k op lg _ HP.out hk hs).mono ?_
    rintro e w1 ⟨rfl, n1, rfl⟩
    rw [HC.out]
    go_wp2_with fail
    refine (quoted_any b s k op lg _ (HP.out.drewN _) HE.out.1 hG hs HG.out).mono ?_
    rintro e w2 ⟨rfl, hb2, hp2⟩
    go_wp2_with fail
    go_ret2
    exact ⟨_, _, _, lg, rfl, plf_if (Lf.str ⟨(textR s k).1.toArray⟩), ((But.refl _ _).drewN _).trans hb2, hp2, pres_leaf HSK.out (by rw [HG.out]; decide) (by rw [HG.out]; decide) (lres_str HG.out)⟩
  · have HG : Hid (gb s k = 91) := HCG.out 91 (by omega) rfl
    have hlt := lt_of_gb (s := s) (k := k) (by have := HG.out; omega)
    clear HCG HCN
    go_enter Tryz.func12, Tryz.ntmps12
    go_wp2_with fail
    refine (peek_any b s k op lg _ HP.out hk hs).mono ?_
    rintro e w1 ⟨rfl, n1, rfl⟩
    rw [HC.out]
    go_wp2_with fail
    refine (HNE.out b s k op lg false _ J HOP.out hop0 (HP.out.drewN _) (HE.out.drewN _) hG hs hlt HG.out).mono ?_
    rintro e w2 ⟨x, er, k2, lg2, rfl, hx2, hb2, hp2, hr2⟩
    go_wp2_with fail
    go_ret2
    refine ⟨x, er, k2, lg2, rfl, hx2, ((But.refl _ _).drewN _).trans hb2, hp2, ?_⟩
    show PRes _ _ _ _ _ _ _ _ _
    have h := pvalQ_br (n := n) (s := s) (k := k) (lg := lg) false (by rw [HSK.out]; exact HG.out)
    rw [HSK.out] at h
    rw [h]; exact hr2.out
  · have HG : Hid (gb s k = 123) := HCG.out 123 (by omega) rfl
    have hlt := lt_of_gb (s := s) (k := k) (by have := HG.out; omega)
    clear HCG HCN
    go_enter Tryz.func12, Tryz.ntmps12
    go_wp2_with fail
    refine (peek_any b s k op lg _ HP.out hk hs).mono ?_
    rintro e w1 ⟨rfl, n1, rfl⟩
    rw [HC.out]
    go_wp2_with fail
    refine (HNE.out b s k op lg true _ J HOP.out hop0 (HP.out.drewN _) (HE.out.drewN _) hG hs hlt HG.out).mono ?_
    rintro e w2 ⟨x, er, k2, lg2, rfl, hx2, hb2, hp2, hr2⟩
    go_wp2_with fail
    go_ret2
    refine ⟨x, er, k2, lg2, rfl, hx2, ((But.refl _ _).drewN _).trans hb2, hp2, ?_⟩
    show PRes _ _ _ _ _ _ _ _ _
    have h := pvalQ_br (n := n) (s := s) (k := k) (lg := lg) true (by rw [HSK.out]; exact HG.out)
    rw [HSK.out] at h
    rw [h]; exact hr2.out
  · have H1 : Hid (gb s k ≠ 110 ∧ gb s k ≠ 102 ∧ gb s k ≠ 116 ∧ gb s k ≠ 34 ∧ gb s k ≠ 91 ∧ gb s k ≠ 123) := ⟨HCN.out _ (by omega) n1, HCN.out _ (by omega) n2, HCN.out _ (by omega) n3, HCN.out _ (by omega) n4, HCN.out _ (by omega) n5, HCN.out _ (by omega) n6⟩
    have m1 : (c == 110) = false := beq_eq_false_iff_ne.2 n1
    have m2 : (c == 102) = false := beq_eq_false_iff_ne.2 n2
    have m3 : (c == 116) = false := beq_eq_false_iff_ne.2 n3
    have m4 : (c == 34) = false := beq_eq_false_iff_ne.2 n4
    have m5 : (c == 91) = false := beq_eq_false_iff_ne.2 n5
    have m6 : (c == 123) = false := beq_eq_false_iff_ne.2 n6
    clear HCG HCN n1 n2 n3 n4 n5 n6
    go_enter Tryz.func12, Tryz.ntmps12
    go_wp2_with fail
    refine (peek_any b s k op lg _ HP.out hk hs).mono ?_
    rintro e w1 ⟨rfl, n1, rfl⟩
    rw [HC.out]
    go_wp2_with fail
    refine (pnumber_any b s k op lg _ (HP.out.drewN _) (HE.out.drewN _) hG hk hs).mono ?_
    rintro e w2 ⟨lg2, hn2, hb2, hp2⟩
    have hn := hn2.out
    rcases hn with ⟨q1, q2, q3⟩ | ⟨q1, q2, v, q3, q4⟩
    · subst q3
      clear q1 q2
      go_wp2_with fail
      go_ret2
      exact ⟨_, _, _, lg2, rfl, .inl rfl, ((But.refl _ _).drewN _).trans hb2, hp2, pres_leaf HSK.out H1.out.2.2.2.2.1 H1.out.2.2.2.2.2 (lres_num H1.out.2.2.2.1 H1.out.1 H1.out.2.1 H1.out.2.2.1 hn2.out)⟩
    · obtain ⟨z, hz⟩ : ∃ z, z = (if decide (gb s k = 45) = true then -(v.getD 0) else v.getD 0) := ⟨_, rfl⟩
      rw [← hz] at q4
      subst q4
      clear q1 q2 q3 hz
      go_wp2_with fail
      go_ret2
      exact ⟨_, _, _, lg2, rfl, .inr ⟨_, _, rfl⟩, ((But.refl _ _).drewN _).trans hb2, hp2, pres_leaf HSK.out H1.out.2.2.2.2.1 H1.out.2.2.2.2.2 (lres_num H1.out.2.2.2.1 H1.out.1 H1.out.2.1 H1.out.2.2.1 hn2.out)⟩

end Go.Proofs.YtjaoocincdoaaaaGreatDoor

namespace Go.Proofs.YtjaoocincdoaaaaGreatDoor
open Go.RowKit J

set_option linter.unusedVariables false

set_option maxHeartbeats 4000000 in
theorem pnest_zero : PNestSaid 0 := by
  intro b s k op lg obj w J hop hop0 hp hE hG hs hk hg
  have HP : Hid (PS w b s k op lg J) := hp
  obtain ⟨g0, g1, g2, g3, hf⟩ := pcells hp.1
  have hop12 : op = 12 := by simpa using hop
  subst hop12
  clear hp hE g0 g1 g3 hf hop hg
  go_enter Tryz.func23, Tryz.ntmps23
  go_wp2_with fail
  refine (wrong_any b s k 12 lg _ HP.out).mono ?_
  rintro e w1 ⟨rfl, n1, rfl⟩
  rw [errV]
  go_wp2_with fail
  go_ret2
  exact ⟨_, _, k, lg, rfl, .inl rfl, (But.refl _ _).drewN _, HP.out.drewN _, rfl⟩

theorem pres_keep {n : Nat} {J : Addr} {R : Except Nat (VT n × Nat × Bool)} {w w' : World} {M : Nat} {x er : Value} {k' : Nat} {lg' : Bool} {b : Nat} (h : PRes n J R w M x er k' lg') (hb : But b w w') (hbM : b < M) : PRes n J R w' M x er k' lg' := by
  unfold PRes at *
  cases R with
  | error p => exact h
  | ok r =>
    obtain ⟨h1, h2, h3, h4⟩ := h
    exact ⟨h1, h2, h3, RefP.keep n h4 (fun i hi hlt => ⟨hb.block i hlt (by intro e; injection e; omega), hi⟩)⟩
theorem pres_mono {n : Nat} {J : Addr} {R : Except Nat (VT n × Nat × Bool)} {w : World} {M M' : Nat} {x er : Value} {k' : Nat} {lg' : Bool} (h : PRes n J R w M x er k' lg') (hM : M' ≤ M) : PRes n J R w M' x er k' lg' := by
  unfold PRes at *
  cases R with
  | error p => exact h
  | ok r =>
    obtain ⟨h1, h2, h3, h4⟩ := h
    exact ⟨h1, h2, h3, RefP.keep n h4 (fun i hi hlt => ⟨rfl, by omega⟩)⟩

theorem eg_plist : ∀ args W, (callFunc 41 args).run Tryz.prog W = .ok (.enter 41 args) W := enters_of Tryz.func41 (by kernel_rfl) rfl
theorem eg_pobj : ∀ args W, (callFunc 40 args).run Tryz.prog W = .ok (.enter 40 args) W := enters_of Tryz.func40 (by kernel_rfl) rfl

set_option maxRecDepth 100000 in
set_option maxHeartbeats 4000000 in
theorem pnest_succ (n : Nat) (hval : PValSaid n) : PNestSaid (n + 1) := by
  intro b s k op lg obj w J hop hop0 hp hE hG hs hk hg
  have HP : Hid (PS w b s k op lg J) := hp
  have HE : Hid (Env w) := hE
  have HV : Hid (PValSaid n) := hval
  obtain ⟨g0, g1, g2, g3, hf⟩ := pcells hp.1
  have hne : (op == 12) = false := beq_eq_false_iff_ne.2 (by omega)
  have hop11 : op ≤ 11 := by omega
  have HOP : Hid (op + 1 + (n : Int) = 12) := by show _ = _; omega
  have hbw := lt_of_heap hp.1
  have hmf : ∀ (fn : Fn) (first cap : Array Value) (w : World), (Instr.makeFunc fn first cap).run Tryz.prog w = .ok (.func fn first cap) w := fun _ _ _ _ => rfl
  cases obj
  · have HPK : Hid (pk s k = 91) := (pk_gb (by omega)).2 (by simpa using hg)
    clear hp hE hop hg hval g0 g3
    go_enter Tryz.func23, Tryz.ntmps23
    go_wp2_with fail
    refine (peek_any b s k (op + 1) lg _ (HP.out.open (op + 1)) (by omega) hs).mono ?_
    rintro e w1 ⟨rfl, n1, rfl⟩
    rw [HPK.out]
    have HP1 : Hid (PS ((w.setCell ⟨b, 2, none⟩ (.int .i64 (op + 1))).drewN n1) b s k (op + 1) lg J) := (HP.out.open (op + 1)).drewN n1
    obtain ⟨y0, y1, y2, y3, yf⟩ := pcells HP1.out.1
    clear y0 y2 y3 g1 g2 hf
    go_wp2_with fail
    have hbw2 : But b w ((((w.setCell ⟨b, 2, none⟩ (.int .i64 (op + 1))).drewN n1).setCell ⟨b, 1, none⟩ (.int .i64 ((k : Int) + 1)))) := (((But.refl b w).setCell _ _).drewN n1).setCell _ _
    refine (plist_any n HV.out b s (k + 1) (op + 1) lg _ J HOP.out (by omega) (HP1.out.at (k + 1) (by omega)) (HE.out.but hbw2 hG) hG hs (by omega) (by omega)).mono ?_
    rintro e w3 ⟨x, er, k3, lg3, rfl, hx3, hb3, hp3, hr3⟩
    have HP3 : Hid (PS w3 b s k3 (op + 1) lg3 J) := hp3
    have HB3 : Hid (But b w w3) := hbw2.trans hb3
    have HR3 := hid_of (pres_mono (M' := w.heap.size) hr3.out hbw2.size)
    obtain ⟨z0, z1, z2, z3, zf⟩ := pcells hp3.1
    clear z0 z1 z3 hp3 hbw2 hb3 hr3
    go_wp2_with fail
    go_ret2
    have hop' : op + 1 - 1 = op := by omega
    refine ⟨x, er, k3, lg3, rfl, hx3, HB3.out.setCell _ _, HP3.out.open op, ?_⟩
    show PRes _ _ _ _ _ _ _ _ _
    exact pres_keep HR3.out ((But.refl b w3).setCell _ _) hbw
  · have HPK : Hid (pk s k = 123) := (pk_gb (by omega)).2 (by simpa using hg)
    clear hp hE hop hg hval g0 g3
    go_enter Tryz.func23, Tryz.ntmps23
    go_wp2_with fail
    refine (peek_any b s k (op + 1) lg _ (HP.out.open (op + 1)) (by omega) hs).mono ?_
    rintro e w1 ⟨rfl, n1, rfl⟩
    rw [HPK.out]
    have HP1 : Hid (PS ((w.setCell ⟨b, 2, none⟩ (.int .i64 (op + 1))).drewN n1) b s k (op + 1) lg J) := (HP.out.open (op + 1)).drewN n1
    obtain ⟨y0, y1, y2, y3, yf⟩ := pcells HP1.out.1
    clear y0 y2 y3 g1 g2 hf
    go_wp2_with fail
    have hbw2 : But b w ((((w.setCell ⟨b, 2, none⟩ (.int .i64 (op + 1))).drewN n1).setCell ⟨b, 1, none⟩ (.int .i64 ((k : Int) + 1)))) := (((But.refl b w).setCell _ _).drewN n1).setCell _ _
    refine (pobj_any n HV.out b s (k + 1) (op + 1) lg _ J HOP.out (by omega) (HP1.out.at (k + 1) (by omega)) (HE.out.but hbw2 hG) hG hs (by omega) (by omega)).mono ?_
    rintro e w3 ⟨x, er, k3, lg3, rfl, hx3, hb3, hp3, hr3⟩
    have HP3 : Hid (PS w3 b s k3 (op + 1) lg3 J) := hp3
    have HB3 : Hid (But b w w3) := hbw2.trans hb3
    have HR3 := hid_of (pres_mono (M' := w.heap.size) hr3.out hbw2.size)
    obtain ⟨z0, z1, z2, z3, zf⟩ := pcells hp3.1
    clear z0 z1 z3 hp3 hbw2 hb3 hr3
    go_wp2_with fail
    go_ret2
    have hop' : op + 1 - 1 = op := by omega
    refine ⟨x, er, k3, lg3, rfl, hx3, HB3.out.setCell _ _, HP3.out.open op, ?_⟩
    show PRes _ _ _ _ _ _ _ _ _
    exact pres_keep HR3.out ((But.refl b w3).setCell _ _) hbw

theorem pval_all : ∀ n, PValSaid n
  | 0 => pvalue_any 0 pnest_zero
  | n + 1 => pvalue_any (n + 1) (pnest_succ n (pval_all n))

end Go.Proofs.YtjaoocincdoaaaaGreatDoor
