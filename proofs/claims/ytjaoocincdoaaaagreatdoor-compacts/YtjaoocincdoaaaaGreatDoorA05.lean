/- The document's reader: a list, the walk. The document's reader: an object. -/
import Derived.Test.YtjaoocincdoaaaaGreatDoorA04
namespace Go.Proofs.YtjaoocincdoaaaaGreatDoor
open Go.RowKit J

set_option linter.unusedVariables false

/-- What holds of a list that is being read. -/
def ListInv (n N : Nat) (wr : World) (vs : List (VT n)) : Prop :=
  ∃ l wt ps, wr.heap[N]? = some (vblk 108 0 ⟨#[]⟩ l nilSl wt) ∧ Row wr 46 l ps ∧ (∀ g, l.ownBlock = some g → N < g) ∧ All2 (RefV n wr (fun m => N < m ∧ l.ownBlock ≠ some m)) vs ps

theorem ListInv.but {n N b : Nat} {w w' : World} {vs : List (VT n)} (h : ListInv n N w vs) (hb : But b w w') (hbN : b < N) : ListInv n N w' vs := by
  obtain ⟨l, wt, ps, h1, h2, h3, h4⟩ := h
  refine ⟨l, wt, ps, ?_, h2.kept (Chg.of_but hb) (fun k hk e => by have := h3 k hk; omega), h3, all2_keep h4 (fun k o hk ho => ⟨hb.block k (lt_of_heap ho) (by intro e; injection e; omega), hk⟩)⟩
  exact (hb.block N (lt_of_heap h1) (by intro e; injection e; omega)).trans h1

/-- The list is done. -/
theorem ListInv.ref {n N : Nat} {w : World} {vs : List (VT n)} (h : ListInv n N w vs) : RefV (n + 1) w (fun m => N ≤ m) (VT.list vs) (.pointer (some ⟨N, 0, none⟩)) := by
  obtain ⟨l, wt, ps, h1, h2, h3, h4⟩ := h
  exact ⟨N, wt, l, ps, rfl, Nat.le_refl _, h1, h2, fun g hg => Nat.le_of_lt (h3 g hg), h4.mono (fun a b hab => RefV.keep n hab (fun k o hk _ => ⟨rfl, Nat.le_of_lt hk.1⟩))⟩
theorem ListInv.ptr {n N : Nat} {w : World} {vs : List (VT n)} (h : ListInv n N w vs) : PtrTo w (fun m => N ≤ m) (.pointer (some ⟨N, 0, none⟩)) := RefV.some1 (n + 1) h.ref

theorem add_list {n N b : Nat} {w2 : World} {vs : List (VT n)} {p2 : Value} {M : Nat} {w : World} (hinv : ListInv n N w vs) (hb : But b w w2) (hbN : b < N) (hM : M = w.heap.size) (hNM : N < M) (hp : PtrTo w2 (fun m => M ≤ m) p2) (hlen : vs.length ≤ 2000) :
    Calls Tryz.prog 119 #[.pointer (some ⟨N, 0, none⟩), p2] w2 fun e w3 => e = .returned (.tuple #[]) ∧ Chg (fun k => N ≤ k) w2 w3 ∧ (∃ kind k s l ks wt, w3.heap[N]? = some (vblk kind k s l ks wt)) ∧ Hid (∀ v2, RefV n w2 (fun m => M ≤ m) v2 p2 → ListInv n N w3 (vs ++ [v2])) := by
  obtain ⟨l, wt, ps, h1, h2, h3, h4⟩ := hinv
  obtain ⟨m2, a1, a2, a3, a4, a5, a6, rfl, hA, hh⟩ := hp
  have h1' : w2.heap[N]? = some (vblk 108 0 ⟨#[]⟩ l nilSl wt) := (hb.block N (lt_of_heap h1) (by intro e; injection e; omega)).trans h1
  have h2' : Row w2 46 l ps := h2.kept (Chg.of_but hb) (fun k hk e => by have := h3 k hk; omega)
  have h4' := all2_keep (w' := w2) (B := fun m => N < m ∧ l.ownBlock ≠ some m) h4 (fun k o hk ho => ⟨hb.block k (lt_of_heap ho) (by intro e; injection e; omega), hk⟩)
  have hlM : ∀ g, l.ownBlock = some g → N < g ∧ g < M := fun g hg => ⟨h3 g hg, by rw [hM]; exact h2.lt hg⟩
  refine (add_any N m2 108 0 ⟨#[]⟩ l nilSl wt a1 a2 a3 a4 a5 a6 ps w2 h1' hh (by omega) h2' (fun g hg => by have := hlM g hg; omega) (by rw [← h4.length]; exact hlen)).mono ?_
  rintro e w3 ⟨rfl, l', wt', r1, r2, r3, r4⟩
  refine ⟨rfl, r4.mono (fun i _ h => ?_), ⟨_, _, _, _, _, _, r1⟩, ?_⟩
  · rcases h with h | h
    · omega
    · have := hlM i h; omega
  · intro v2 href
    have := list_step h4' href hNM hlM r3 (by rw [hM]; exact hb.size) r4
    exact ⟨l', wt', _, r1, r2, this.2, this.1⟩

theorem res_list {n : Nat} {s : ByteArray} {k : Nat} {lg : Bool} {R : Except Nat (List (VT n) × Nat × Bool)} (h : R = listF (pval n s) s (s.size + 1) true (skip s (k + 1)) lg []) : brk (n + 1) s k lg false = R.map fun r => (VT.list r.1, r.2) := by
  rw [h]; rfl

set_option maxRecDepth 100000 in
set_option maxHeartbeats 8000000 in
theorem br_list (n : Nat) (hval : ValSaid n) (b : Nat) (s : ByteArray) (k : Nat) (d : Int) (lg : Bool) (w : World) (hd : d + ((n + 1 : Nat) : Int) = 12) (hd0 : 0 ≤ d) (hb : w.heap[b]? = some (rblk s k d (-1) lg)) (hs : s.size ≤ 1000) (hk : k < s.size) :
    Calls Tryz.prog 80 #[.pointer (some ⟨b, 0, none⟩), .bool false] w fun e w' => ∃ p v k' bad' lg', e = .returned p ∧ But b w w' ∧ Hid (bad' < 0 → RefV (n + 1) w' (fun m => w.heap.size ≤ m) v p) ∧ PtrTo w' (fun m => w.heap.size ≤ m) p ∧ w'.heap[b]? = some (rblk s k' d bad' lg') ∧ -1 ≤ bad' ∧ Hid (bad' < 0 → k ≤ k' ∧ k' ≤ s.size) ∧ Hid (ResIs (brk (n + 1) s k lg false) v k' bad' lg') := by
  obtain ⟨g0, g1, g2, g3, g4, hf⟩ := rcells hb
  have hd12 : (d == 12) = false := beq_eq_false_iff_ne.2 (by omega)
  have hdb2 : d ≤ 11 := by omega
  have HB : Hid (w.heap[b]? = some (rblk s k d (-1) lg)) := hb
  have hbw := lt_of_heap hb
  obtain ⟨N, hN⟩ : ∃ N, N = w.heap.size := ⟨_, rfl⟩
  have HN : Hid (N = w.heap.size) := hN
  have hbN : b < N := by omega
  have HV : Hid (ValSaid n) := hval
  obtain ⟨R, hR⟩ : ∃ R, R = listF (pval n s) s (s.size + 1) true (skip s (k + 1)) lg [] := ⟨_, rfl⟩
  have HBR : Hid (brk (n + 1) s k lg false = R.map fun r => (VT.list r.1, r.2)) := res_list hR
  have HR : Hid (listF (pval n s) s (s.size + 1) true (skip s (k + 1)) lg [] = R) := hR.symm
  have HDN : Hid (d + 1 + (n : Int) = 12) := by show _ = _; omega
  clear hb g0 g3 g4 hval hR hd hN
  go_enter Tryz.func80, Tryz.ntmps80
  go_wp2_with (go_at_call 53; refine (blanks_good b s (k + 1) (d + 1) lg _ (by exact heap_old (rset_deep (rset_at HB.out (k + 1) (by omega)) _)) hs).mono ?_; rintro e w1 ⟨rfl, hbut1, hblk1⟩)
  have hbutA : But b w w1 := ((((But.refl b w).setCell _ _).setCell _ _).alloc _).trans hbut1
  have hsz1 : N + 1 ≤ w1.heap.size := by have := hbut1.size; simp [World.setCell] at this; have := HN.out; omega
  have hinv1 : ListInv n N w1 [] := by
    refine ⟨nilSl, 1, [], ?_, Row.nil _ _, fun g hg => by simp [nilSl, Value.ownBlock] at hg, trivial⟩
    refine (hbut1.block N (by simp [World.setCell]; have := HN.out; omega) (by intro e; injection e; omega)).trans ?_
    exact heap_new (by simp [World.setCell]; exact HN.out.symm)
  have hj0 : k < skip s (k + 1) := skip_le s (k + 1)
  have hj1 : skip s (k + 1) ≤ s.size := skip_size s (k + 1) (by omega)
  clear hbut1 g1 g2 hf
  go_loopg [7] (s.size + 1) (fun g fv wr => But b w wr ∧ N + 1 ≤ wr.heap.size ∧ ((∃ fst j lgj vs, fv = .bool fst ∧ k < j ∧ j ≤ s.size ∧ (if fst then s.size + 1 else s.size) < j + g ∧ vs.length + g ≤ s.size + 1 ∧ listF (pval n s) s g fst j lgj vs = R ∧ wr.heap[b]? = some (rblk s j (d + 1) (-1) lgj) ∧ ListInv n N wr vs) ∨
      (∃ fst k' p lg', fv = .bool fst ∧ R = .error p ∧ wr.heap[b]? = some (rblk s k' (d + 1) (p : Nat) lg') ∧ ∃ kind kk ss l ks wt, wr.heap[N]? = some (vblk kind kk ss l ks wt))))
  case atStart => exact ⟨hbutA, hsz1, Or.inl ⟨true, skip s (k + 1), lg, [], rfl, hj0, hj1, by rw [if_pos rfl]; omega, by simp, HR.out, hblk1, hinv1⟩⟩
  case round =>
    obtain ⟨hbut, hsz, hmode⟩ := hrel
    clear hbutA hsz1 hinv1 hblk1 hj0 hj1 HR
    rcases hmode with ⟨fst, j, lgj, vs, rfl, hkj, hj, hjg, hvl, hL, hblk, hinv⟩ | ⟨fst, k', p, lg', rfl, hRe, hblk, hvb⟩
    · have hjg' : s.size < j + gk := by split at hjg <;> omega
      obtain ⟨f, rfl⟩ : ∃ f, gk = f + 1 := ⟨gk - 1, by omega⟩
      have HJG : Hid ((if fst then s.size + 1 else s.size) < j + (f + 1)) := hjg
      clear hjg
      have HL : Hid (listF (pval n s) s (f + 1) fst j lgj vs = R) := hL
      have HB2 : Hid (wr.heap[b]? = some (rblk s j (d + 1) (-1) lgj)) := hblk
      have HI : Hid (ListInv n N wr vs) := hinv
      obtain ⟨g0, g1, g2, g3, g4, hf⟩ := rcells hblk
      obtain ⟨c, hc⟩ : ∃ c, c = gb s j := ⟨_, rfl⟩
      have hcb := gb_bd s j
      rw [← hc] at hcb
      have HC : Hid (c = gb s j) := hc
      clear hL hblk hinv hc g0 g1 g2 g4
      by_cases h93 : c = 93
      · subst h93
        have hj2 : j < s.size := lt_of_gb (by rw [← HC.out]; omega)
        have HF : Hid (R = .ok (vs, j + 1, lgj)) := HL.out.symm.trans (listF_end HC.out.symm)
        clear hf
        cases fst
        all_goals
          go_wp2_with (go_at_call 118; refine (take_yes b s j (d + 1) (-1) lgj 93 _ (by exact HB2.out) (by rw [cv_good, ← HC.out]) (by omega) (by omega)).mono ?_; rintro e w2 ⟨rfl, hbut2, hblk2⟩; obtain ⟨q0, q1, q2, q3, q4, qf⟩ := rcells hblk2; have HB3 : Hid (w2.heap[b]? = some (rblk s (j + 1) (d + 1) (-1) lgj)) := hblk2; clear hblk2 q0 q1 q3 q4)
          go_ret
          have hinv2 : ListInv n N (w2.setCell ⟨b, 2, none⟩ (.int .i64 d)) vs := (HI.out.but hbut2 hbN).but ((But.refl b w2).setCell _ _) hbN
          refine ⟨.pointer (some ⟨N, 0, none⟩), VT.list vs, j + 1, -1, lgj, ?_, (hbut.trans hbut2).setCell _ _, fun _ => ?_, ?_, rset_deep HB3.out d, by omega, fun _ => ⟨by omega, by omega⟩, ?_⟩
          · rw [HN.out]; rfl
          · rw [← HN.out]; exact hinv2.ref
          · rw [← HN.out]; exact hinv2.ptr
          · show ResIs _ _ _ _ _
            rw [HBR.out, HF.out]; exact ⟨rfl, rfl, rfl, rfl⟩
      · have HC93 : Hid (gb s j ≠ 93) := by show _ ≠ _; rw [← HC.out]; exact h93
        have HCV : Hid (cv s j (-1) ≠ 93) := by show _ ≠ _; rw [cv_good]; exact HC93.out
        clear h93
        cases fst
        · by_cases h44 : c = 44
          · subst h44
            have hj2 : j < s.size := lt_of_gb (by rw [← HC.out]; omega)
            go_wp2_with (first
              | (go_at_call 118; refine (take_no b s j (d + 1) (-1) lgj 93 _ (by exact HB2.out) HCV.out (by omega) (by omega)).mono ?_; rintro e w2 ⟨rfl, hbut2, hblk2⟩; obtain ⟨q0, q1, q2, q3, q4, qf⟩ := rcells hblk2; have HB3 : Hid (w2.heap[b]? = some (rblk s j (d + 1) (-1) lgj)) := hblk2; clear hblk2 q0 q2 q3 q4)
              | (go_at_call 79; refine (c_any b s j (d + 1) (-1) lgj _ (by exact HB3.out)).mono ?_; rintro e w3 ⟨rfl, nd, rfl⟩; rw [cv_good, ← HC.out]))
            refine (HV.out b s (j + 1) (d + 1) lgj _ HDN.out (by omega) (by exact rset_at (w := w2.drewN _) HB3.out (j + 1) (by omega)) hs (by omega)).mono ?_
            rintro e w5 ⟨p2, v2, k2, bad2, lg2, rfl, hbut5, href5, hpt5, hblk5, hbad5, hle5, hres5⟩
            have hbutW := (hbut2.drewN nd).setCell (b := b) 1 (.int .i64 (j + 1))
            have hinvW : ListInv n w.heap.size _ vs := HN.out ▸ HI.out.but hbutW hbN
            have hNW : w.heap.size < _ := Nat.lt_of_lt_of_le (by have := HN.out; omega : w.heap.size < wr.heap.size) hbutW.size
            have HB5 : Hid (w5.heap[b]? = some (rblk s k2 (d + 1) bad2 lg2)) := hblk5
            clear hblk5
            go_wp2_with fail
            refine (add_list hinvW hbut5 hbw rfl hNW hpt5 (by omega)).mono ?_
            rintro e w6 ⟨rfl, hchg6, hvb6, hstep6⟩
            have hblk6 : w6.heap[b]? = some (rblk s k2 (d + 1) bad2 lg2) := (hchg6.block b (lt_of_heap HB5.out) (by omega)).trans HB5.out
            have hbut6 : But b w w6 := by
              have h1 := (hbut.trans hbutW).trans hbut5
              exact ⟨hchg6.os.trans h1.os, hchg6.tape.trans h1.tape, hchg6.output.trans h1.output, Nat.le_trans h1.size hchg6.size, fun i hi hn => (hchg6.block i (Nat.lt_of_lt_of_le hi h1.size) (by omega)).trans (h1.block i hi hn)⟩
            have hsz6 : N + 1 ≤ w6.heap.size := by have := hbutW.size; have := hbut5.size; have := hchg6.size; omega
            clear hbutW hinvW hNW hbut5 hchg6 hpt5
            cases hpv : pval n s (j + 1) lgj with
            | error pp =>
              have hr := hres5.out
              rw [hpv] at hr
              have hbe : bad2 = (pp : Int) := hr
              subst hbe
              have HF : Hid (R = .error pp) := HL.out.symm.trans (listF_err HC93.out (Or.inr HC.out.symm) (by exact hpv))
              clear hr hpv hres5 hle5 href5 hstep6 hbad5
              go_wp2_with (go_at_call 53; refine (blanks_dead b s k2 (d + 1) _ lg2 _ (by exact hblk6) (by omega)).mono ?_; rintro e w7 ⟨rfl, hbut7, hblk7⟩)
              go_roundg 0
              case measure => omega
              case rel =>
                refine ⟨hbut6.trans hbut7, Nat.le_trans hsz6 hbut7.size, Or.inr ⟨false, k2, pp, lg2, rfl, HF.out, hblk7, ?_⟩⟩
                obtain ⟨a1, a2, a3, a4, a5, a6, hv⟩ := hvb6
                exact ⟨a1, a2, a3, a4, a5, a6, (hbut7.block N (by omega) (by intro e; injection e; omega)).trans (by rw [HN.out]; exact hv)⟩
            | ok rr =>
              have hr := hres5.out
              rw [hpv] at hr
              obtain ⟨hb1, hb2, hb3, hb4⟩ : bad2 = -1 ∧ v2 = rr.1 ∧ k2 = rr.2.1 ∧ lg2 = rr.2.2 := hr
              subst hb1
              have hkk := hle5.out (by omega)
              have HF : Hid (listF (pval n s) s f false (skip s k2) lg2 (vs ++ [v2]) = R) := by
                show _ = _
                rw [← HL.out, listF_next (v := v2) (k2 := k2) (lg2 := lg2) HC93.out (Or.inr HC.out.symm) (by rw [hb2, hb3, hb4]; exact hpv)]
              have HI6 : Hid (ListInv n w.heap.size w6 (vs ++ [v2])) := hstep6.out v2 (href5.out (by omega))
              clear hpv hres5 hle5 href5 hstep6 hb2 hb3 hb4 hbad5 hvb6
              go_wp2_with (go_at_call 53; refine (blanks_good b s k2 (d + 1) lg2 _ (by exact hblk6) hs).mono ?_; rintro e w7 ⟨rfl, hbut7, hblk7⟩)
              have hsk := skip_le s k2
              have hjg2 := HJG.out
              simp at hjg2
              go_roundg f
              case measure => omega
              case rel =>
                refine ⟨hbut6.trans hbut7, Nat.le_trans hsz6 hbut7.size, Or.inl ⟨false, skip s k2, lg2, vs ++ [v2], rfl, by omega, skip_size s k2 hkk.2, by simp; omega, by rw [List.length_append]; simp; omega, HF.out, hblk7, ?_⟩⟩
                exact (HN.out ▸ HI6.out : ListInv n N w6 (vs ++ [v2])).but hbut7 hbN
          · have h44b : (c != 44) = true := by rw [bne_iff_ne]; exact h44
            have HF : Hid (R = .error j) := HL.out.symm.trans (listF_bad HC93.out (by rw [← HC.out]; exact h44))
            clear h44
            go_wp2_with (first
              | (go_at_call 118; refine (take_no b s j (d + 1) (-1) lgj 93 _ (by exact HB2.out) HCV.out (by omega) (by omega)).mono ?_; rintro e w2 ⟨rfl, hbut2, hblk2⟩; have HB3 : Hid (w2.heap[b]? = some (rblk s j (d + 1) (-1) lgj)) := hblk2; clear hblk2)
              | (go_at_call 79; refine (c_any b s j (d + 1) (-1) lgj _ (by exact HB3.out)).mono ?_; rintro e w3 ⟨rfl, nd, rfl⟩; rw [cv_good, ← HC.out])
              | (go_at_call 87; refine (fail_good b s j (d + 1) lgj _ (by exact HB3.out)).mono ?_; rintro e w4 ⟨rfl, hbut4, hblk4⟩; obtain ⟨q0, q1, q2, q3, q4, qf⟩ := rcells hblk4; have HB4 : Hid (w4.heap[b]? = some (rblk s j (d + 1) j lgj)) := hblk4; clear hblk4 q0 q1 q3 q4))
            go_ret
            have hbutB := ((hbut2.drewN _).trans hbut4).setCell (b := b) 2 (.int .i64 d)
            have hinv2 := HI.out.but hbutB hbN
            refine ⟨.pointer (some ⟨N, 0, none⟩), VT.list vs, j, j, lgj, ?_, hbut.trans hbutB, fun h => absurd h (by omega), ?_, rset_deep HB4.out d, by omega, fun h => absurd h (by omega), ?_⟩
            · rw [HN.out]; rfl
            · rw [← HN.out]; exact hinv2.ptr
            · show ResIs _ _ _ _ _
              rw [HBR.out, HF.out]; rfl
        · go_wp2_with (first
              | (go_at_call 118; refine (take_no b s j (d + 1) (-1) lgj 93 _ (by exact HB2.out) HCV.out (by omega) (by omega)).mono ?_; rintro e w2 ⟨rfl, hbut2, hblk2⟩; have HB3 : Hid (w2.heap[b]? = some (rblk s j (d + 1) (-1) lgj)) := hblk2; clear hblk2))
          refine (HV.out b s j (d + 1) lgj _ HDN.out (by omega) (by exact HB3.out) hs (by omega)).mono ?_
          rintro e w5 ⟨p2, v2, k2, bad2, lg2, rfl, hbut5, href5, hpt5, hblk5, hbad5, hle5, hres5⟩
          have hbutW := hbut2
          have hinvW : ListInv n w.heap.size _ vs := HN.out ▸ HI.out.but hbutW hbN
          have hNW : w.heap.size < _ := Nat.lt_of_lt_of_le (by have := HN.out; omega : w.heap.size < wr.heap.size) hbutW.size
          have HB5 : Hid (w5.heap[b]? = some (rblk s k2 (d + 1) bad2 lg2)) := hblk5
          clear hblk5
          go_wp2_with fail
          refine (add_list hinvW hbut5 hbw rfl hNW hpt5 (by omega)).mono ?_
          rintro e w6 ⟨rfl, hchg6, hvb6, hstep6⟩
          have hblk6 : w6.heap[b]? = some (rblk s k2 (d + 1) bad2 lg2) := (hchg6.block b (lt_of_heap HB5.out) (by omega)).trans HB5.out
          have hbut6 : But b w w6 := by
            have h1 := (hbut.trans hbutW).trans hbut5
            exact ⟨hchg6.os.trans h1.os, hchg6.tape.trans h1.tape, hchg6.output.trans h1.output, Nat.le_trans h1.size hchg6.size, fun i hi hn => (hchg6.block i (Nat.lt_of_lt_of_le hi h1.size) (by omega)).trans (h1.block i hi hn)⟩
          have hsz6 : N + 1 ≤ w6.heap.size := by have := hbutW.size; have := hbut5.size; have := hchg6.size; omega
          clear hbutW hinvW hNW hbut5 hchg6 hpt5
          cases hpv : pval n s j lgj with
          | error pp =>
            have hr := hres5.out
            rw [hpv] at hr
            have hbe : bad2 = (pp : Int) := hr
            subst hbe
            have HF : Hid (R = .error pp) := HL.out.symm.trans (listF_err HC93.out (Or.inl rfl) (by exact hpv))
            clear hr hpv hres5 hle5 href5 hstep6 hbad5
            go_wp2_with (go_at_call 53; refine (blanks_dead b s k2 (d + 1) _ lg2 _ (by exact hblk6) (by omega)).mono ?_; rintro e w7 ⟨rfl, hbut7, hblk7⟩)
            go_roundg 0
            case measure => omega
            case rel =>
              refine ⟨hbut6.trans hbut7, Nat.le_trans hsz6 hbut7.size, Or.inr ⟨false, k2, pp, lg2, rfl, HF.out, hblk7, ?_⟩⟩
              obtain ⟨a1, a2, a3, a4, a5, a6, hv⟩ := hvb6
              exact ⟨a1, a2, a3, a4, a5, a6, (hbut7.block N (by omega) (by intro e; injection e; omega)).trans (by rw [HN.out]; exact hv)⟩
          | ok rr =>
            have hr := hres5.out
            rw [hpv] at hr
            obtain ⟨hb1, hb2, hb3, hb4⟩ : bad2 = -1 ∧ v2 = rr.1 ∧ k2 = rr.2.1 ∧ lg2 = rr.2.2 := hr
            subst hb1
            have hkk := hle5.out (by omega)
            have HF : Hid (listF (pval n s) s f false (skip s k2) lg2 (vs ++ [v2]) = R) := by
              show _ = _
              rw [← HL.out, listF_next (v := v2) (k2 := k2) (lg2 := lg2) HC93.out (Or.inl rfl) (by rw [hb2, hb3, hb4]; exact hpv)]
            have HI6 : Hid (ListInv n w.heap.size w6 (vs ++ [v2])) := hstep6.out v2 (href5.out (by omega))
            clear hpv hres5 hle5 href5 hstep6 hb2 hb3 hb4 hbad5 hvb6
            go_wp2_with (go_at_call 53; refine (blanks_good b s k2 (d + 1) lg2 _ (by exact hblk6) hs).mono ?_; rintro e w7 ⟨rfl, hbut7, hblk7⟩)
            have hsk := skip_le s k2
            have hjg2 := HJG.out
            simp at hjg2
            go_roundg f
            case measure => omega
            case rel =>
              refine ⟨hbut6.trans hbut7, Nat.le_trans hsz6 hbut7.size, Or.inl ⟨false, skip s k2, lg2, vs ++ [v2], rfl, by omega, skip_size s k2 hkk.2, by simp; omega, by rw [List.length_append]; simp; omega, HF.out, hblk7, ?_⟩⟩
              exact (HN.out ▸ HI6.out : ListInv n N w6 (vs ++ [v2])).but hbut7 hbN
    · have HRe : Hid (R = .error p) := hRe
      have HB2 : Hid (wr.heap[b]? = some (rblk s k' (d + 1) (p : Nat) lg')) := hblk
      obtain ⟨g0, g1, g2, g3, g4, hf⟩ := rcells hblk
      clear hRe hblk g0 g1 g4
      go_wp2
      go_ret
      obtain ⟨kind, kk, ss, l, ks, wt, hvb⟩ := hvb
      refine ⟨_, VT.list [], k', p, lg', rfl, hbut.setCell _ _, fun h => absurd h (by omega), ⟨N, _, _, _, _, _, _, ?_, by rw [HN.out]; exact Nat.le_refl _, heap_set_other hvb (by omega) _⟩, ?_, by omega, fun h => absurd h (by omega), ?_⟩
      · rw [HN.out]; rfl
      · exact rset_deep HB2.out d
      · show ResIs _ _ _ _ _
        rw [HBR.out, HRe.out]; rfl

end Go.Proofs.YtjaoocincdoaaaaGreatDoor

namespace Go.Proofs.YtjaoocincdoaaaaGreatDoor
open Go.RowKit J

set_option linter.unusedVariables false

/-- What holds of an object that is being read. -/
def ObjInv (n N : Nat) (wr : World) (ks : List ByteArray) (vs : List (VT n)) : Prop :=
  ∃ l ksl wt ps, wr.heap[N]? = some (vblk 111 0 ⟨#[]⟩ l ksl wt) ∧ Row wr 46 l ps ∧ Row wr 9 ksl (kv ks) ∧ (∀ g, l.ownBlock = some g → N < g ∧ ksl.ownBlock ≠ some g) ∧ (∀ g, ksl.ownBlock = some g → N < g) ∧ ks.length = vs.length ∧
    All2 (RefV n wr (fun m => N < m ∧ l.ownBlock ≠ some m ∧ ksl.ownBlock ≠ some m)) vs ps

theorem ObjInv.but {n N b : Nat} {w w' : World} {ks : List ByteArray} {vs : List (VT n)} (h : ObjInv n N w ks vs) (hb : But b w w') (hbN : b < N) : ObjInv n N w' ks vs := by
  obtain ⟨l, ksl, wt, ps, h1, h2, h3, h4, h5, h6, h7⟩ := h
  refine ⟨l, ksl, wt, ps, ?_, h2.kept (Chg.of_but hb) (fun k hk e => by have := h4 k hk; omega), h3.kept (Chg.of_but hb) (fun k hk e => by have := h5 k hk; omega), h4, h5, h6, all2_keep h7 (fun k o hk ho => ⟨hb.block k (lt_of_heap ho) (by intro e; injection e; omega), hk⟩)⟩
  exact (hb.block N (lt_of_heap h1) (by intro e; injection e; omega)).trans h1

theorem ObjInv.ref {n N : Nat} {w : World} {ks : List ByteArray} {vs : List (VT n)} (h : ObjInv n N w ks vs) : RefV (n + 1) w (fun m => N ≤ m) (VT.obj ks vs) (.pointer (some ⟨N, 0, none⟩)) := by
  obtain ⟨l, ksl, wt, ps, h1, h2, h3, h4, h5, h6, h7⟩ := h
  exact ⟨N, wt, l, ksl, ps, rfl, Nat.le_refl _, h1, h2, h3, fun g hg => Nat.le_of_lt (h4 g hg).1, fun g hg => Nat.le_of_lt (h5 g hg), h6, h7.mono (fun a b hab => RefV.keep n hab (fun k o hk _ => ⟨rfl, Nat.le_of_lt hk.1⟩))⟩
theorem ObjInv.ptr {n N : Nat} {w : World} {ks : List ByteArray} {vs : List (VT n)} (h : ObjInv n N w ks vs) : PtrTo w (fun m => N ≤ m) (.pointer (some ⟨N, 0, none⟩)) := RefV.some1 (n + 1) h.ref

theorem first_idx {K : Type} [DecidableEq K] : ∀ (ks : List K) (key : K), (∀ j : Nat, j < ks.length → ks[j]? ≠ some key) ∨ ∃ i : Nat, (∀ j : Nat, j < i → ks[j]? ≠ some key) ∧ ks[i]? = some key
  | [], key => Or.inl (fun j hj => by simp at hj)
  | k :: ks, key => by
    by_cases h : k = key
    · right; exact ⟨0, fun j hj => by omega, by simp [h]⟩
    · rcases first_idx ks key with h1 | ⟨i, h1, h2⟩
      · left
        intro j hj
        cases j with
        | zero => simpa using h
        | succ j => simpa using h1 j (by simpa using hj)
      · right
        refine ⟨i + 1, ?_, by simpa using h2⟩
        intro j hj
        cases j with
        | zero => simpa using h
        | succ j => simpa using h1 j (by omega)

theorem putK_length {K α : Type} [DecidableEq K] : ∀ (ks : List K) (vs : List α) (k : K) (x : α), ks.length = vs.length → (putK ks k).length = (putP ks vs k x).length
  | [], [], k, x, _ => by simp [putK, putP]
  | k' :: ks, v :: vs, k, x, h => by
    simp only [putK, putP]
    split
    · simpa using h
    · simp [putK_length ks vs k x (by simpa using h)]
  | [], v :: vs, k, x, h => by simp at h
  | k' :: ks, [], k, x, h => by simp at h

theorem put_obj {n N b : Nat} {w2 : World} {ks : List ByteArray} {vs : List (VT n)} {p2 : Value} {M : Nat} {w : World} (key : ByteArray) (hinv : ObjInv n N w ks vs) (hb : But b w w2) (hbN : b < N) (hM : M = w.heap.size) (hNM : N < M) (hp : PtrTo w2 (fun m => M ≤ m) p2) (hlen : vs.length ≤ 2000) (hkey : key.size ≤ 100000) :
    Calls Tryz.prog 120 #[.pointer (some ⟨N, 0, none⟩), .string key, p2] w2 fun e w3 => e = .returned (.tuple #[]) ∧ Chg (fun k => N ≤ k) w2 w3 ∧ (∃ kind k s l ks wt, w3.heap[N]? = some (vblk kind k s l ks wt)) ∧ Hid (∀ v2, RefV n w2 (fun m => M ≤ m) v2 p2 → ObjInv n N w3 (putK ks key) (putP ks vs key v2)) := by
  obtain ⟨l, ksl, wt, ps, h1, h2, h3, h4, h5, h6, h7⟩ := hinv.but hb hbN
  have hinvl := hinv
  obtain ⟨l0, ksl0, wt0, ps0, i1, i2, i3, i4, i5, i6, i7⟩ := hinvl
  have he : vblk 111 0 ⟨#[]⟩ l ksl wt = vblk 111 0 ⟨#[]⟩ l0 ksl0 wt0 := by
    have := (hb.block N (lt_of_heap i1) (by intro e; injection e; omega)).trans i1
    rw [h1] at this; injection this
  have hel : l = l0 ∧ ksl = ksl0 := by simp [vblk] at he; exact ⟨he.1, he.2.1⟩
  obtain ⟨rfl, rfl⟩ := hel
  obtain ⟨m2, a1, a2, a3, a4, a5, a6, rfl, hA, hh⟩ := hp
  have hlM : ∀ g, l.ownBlock = some g → N < g ∧ g < M := fun g hg => ⟨(h4 g hg).1, by rw [hM]; exact i2.lt hg⟩
  have hkM : ∀ g, ksl.ownBlock = some g → N < g ∧ g < M := fun g hg => ⟨h5 g hg, by rw [hM]; exact i3.lt hg⟩
  have hlp : ks.length = ps.length := by rw [h6, h7.length]
  have hMw : M ≤ w2.heap.size := by rw [hM]; exact hb.size
  rcases first_idx ks key with hno | ⟨i, hno, hyes⟩
  · refine (put_none N m2 111 0 ⟨#[]⟩ l ksl wt a1 a2 a3 a4 a5 a6 ps ks key w2 h1 hh (by omega) h2 h3 hlp (fun g hg => by have := hlM g hg; exact ⟨by omega, by omega, (h4 g hg).2⟩) (fun g hg => by have := hkM g hg; omega) (by rw [← h7.length]; exact hlen) hkey hno).mono ?_
    rintro e w3 ⟨rfl, l', ksl', wt', r1, r2, r3, r4, r5, r6⟩
    refine ⟨rfl, r6.mono (fun i _ h => ?_), ⟨_, _, _, _, _, _, r1⟩, ?_⟩
    · rcases h with h | h | h
      · omega
      · have := hlM i h; omega
      · have := hkM i h; omega
    · intro v2 href
      have hpp := putP_none ks ps key (.pointer (some ⟨m2, 0, none⟩)) hlp hno
      have key2 : ∀ k o, (N < k ∧ l.ownBlock ≠ some k ∧ ksl.ownBlock ≠ some k) → w2.heap[k]? = some o → w3.heap[k]? = w2.heap[k]? ∧ (N < k ∧ l'.ownBlock ≠ some k ∧ ksl'.ownBlock ≠ some k) := by
        intro k o ⟨q1, q2, q3⟩ ho
        have hk := lt_of_heap ho
        refine ⟨r6.block k hk (by rintro (h | h | h); · omega
                                  · exact q2 h
                                  · exact q3 h), q1, ?_, ?_⟩
        · intro e
          rcases (r4 k e).1 with h | h
          · exact q2 h
          · omega
        · intro e
          rcases r5 k e with h | h
          · exact q3 h
          · omega
      refine ⟨l', ksl', wt', putP ks ps key (.pointer (some ⟨m2, 0, none⟩)), r1, by rw [hpp.1]; exact r2, by rw [hpp.2]; exact r3, ?_, ?_, putK_length ks vs key v2 h6, All2.put (RefV.keep n href ?_) key h6 (all2_keep h7 key2)⟩
      · intro g hg
        refine ⟨?_, (r4 g hg).2⟩
        rcases (r4 g hg).1 with h | h
        · exact (hlM g h).1
        · omega
      · intro g hg
        rcases r5 g hg with h | h
        · exact (hkM g h).1
        · omega
      · intro k o hk ho
        exact key2 k o ⟨by omega, fun e => by have := hlM k e; omega, fun e => by have := hkM k e; omega⟩ ho
  · have hall1 : ∀ p ∈ ps, Some1 w2 p := by
      intro p hp
      obtain ⟨v, hv⟩ := h7.mem p hp
      obtain ⟨m, b1, b2, b3, b4, b5, b6, e1, e2, e3⟩ := RefV.some1 n hv
      exact ⟨m, b1, b2, b3, b4, b5, b6, e1, e3⟩
    refine (put_found N m2 111 0 ⟨#[]⟩ l ksl wt a1 a2 a3 a4 a5 a6 ps ks key i w2 h1 hh (by omega) h2 h3 hlp (fun g hg => by have := hlM g hg; exact ⟨by omega, by omega, (h4 g hg).2⟩) (fun g hg => by have := hkM g hg; omega) (by rw [← h7.length]; exact hlen) hall1 hno hyes).mono ?_
    rintro e w3 ⟨rfl, wt', r1, r2, r3, r6⟩
    refine ⟨rfl, r6.mono (fun i _ h => ?_), ⟨_, _, _, _, _, _, r1⟩, ?_⟩
    · rcases h with h | h
      · omega
      · have := hlM i h; omega
    · intro v2 href
      have hpp := putP_found ks ps key (.pointer (some ⟨m2, 0, none⟩)) i hlp hno hyes
      have key2 : ∀ k o, (N < k ∧ l.ownBlock ≠ some k ∧ ksl.ownBlock ≠ some k) → w2.heap[k]? = some o → w3.heap[k]? = w2.heap[k]? ∧ (N < k ∧ l.ownBlock ≠ some k ∧ ksl.ownBlock ≠ some k) := by
        intro k o ⟨q1, q2, q3⟩ ho
        exact ⟨r6.block k (lt_of_heap ho) (by rintro (h | h); · omega
                                              · exact q2 h), q1, q2, q3⟩
      refine ⟨l, ksl, wt', putP ks ps key (.pointer (some ⟨m2, 0, none⟩)), r1, by rw [hpp.1]; exact r2, by rw [hpp.2]; exact r3, h4, h5, putK_length ks vs key v2 h6, All2.put (RefV.keep n href ?_) key h6 (all2_keep h7 key2)⟩
      intro k o hk ho
      exact key2 k o ⟨by omega, fun e => by have := hlM k e; omega, fun e => by have := hkM k e; omega⟩ ho

theorem objF_end {α : Type} {item : Nat → Bool → Except Nat (α × Nat × Bool)} {s : ByteArray} {f : Nat} {fst : Bool} {k : Nat} {lg : Bool} {ks : List ByteArray} {vs : List α} (h : gb s k = 125) : objF item s (f + 1) fst k lg ks vs = .ok ((ks, vs), k + 1, lg) := by rw [objF, if_pos h]
theorem objF_bad {α : Type} {item : Nat → Bool → Except Nat (α × Nat × Bool)} {s : ByteArray} {f : Nat} {k : Nat} {lg : Bool} {ks : List ByteArray} {vs : List α} (h : gb s k ≠ 125) (h2 : gb s k ≠ 44) : objF item s (f + 1) false k lg ks vs = .error k := by rw [objF, if_neg h, if_pos ⟨rfl, h2⟩]
theorem objF_key {α : Type} {item : Nat → Bool → Except Nat (α × Nat × Bool)} {s : ByteArray} {f : Nat} {fst : Bool} {k k0 : Nat} {lg : Bool} {ks : List ByteArray} {vs : List α} {t : List UInt8 × Nat × Int} (h : gb s k ≠ 125) (h2 : fst = true ∨ gb s k = 44) (h0 : k0 = skip s (if fst then k else k + 1)) (ht : textR s k0 = t) (hb : 0 ≤ t.2.2) :
    objF item s (f + 1) fst k lg ks vs = .error t.2.2.toNat := by
  rw [objF, if_neg h, if_neg (by rcases h2 with h2 | h2 <;> simp [h2]), ← h0, ht]
  simp only
  rw [if_pos hb]
theorem objF_colon {α : Type} {item : Nat → Bool → Except Nat (α × Nat × Bool)} {s : ByteArray} {f : Nat} {fst : Bool} {k k0 : Nat} {lg : Bool} {ks : List ByteArray} {vs : List α} {t : List UInt8 × Nat × Int} (h : gb s k ≠ 125) (h2 : fst = true ∨ gb s k = 44) (h0 : k0 = skip s (if fst then k else k + 1)) (ht : textR s k0 = t) (hb : t.2.2 < 0) (hc : gb s (skip s t.2.1) ≠ 58) :
    objF item s (f + 1) fst k lg ks vs = .error (skip s t.2.1) := by
  rw [objF, if_neg h, if_neg (by rcases h2 with h2 | h2 <;> simp [h2]), ← h0, ht]
  simp only
  rw [if_neg (by omega), if_pos hc]
theorem objF_err {α : Type} {item : Nat → Bool → Except Nat (α × Nat × Bool)} {s : ByteArray} {f : Nat} {fst : Bool} {k k0 : Nat} {lg : Bool} {ks : List ByteArray} {vs : List α} {t : List UInt8 × Nat × Int} {p : Nat} (h : gb s k ≠ 125) (h2 : fst = true ∨ gb s k = 44) (h0 : k0 = skip s (if fst then k else k + 1)) (ht : textR s k0 = t) (hb : t.2.2 < 0) (hc : gb s (skip s t.2.1) = 58) (hi : item (skip s t.2.1 + 1) lg = .error p) :
    objF item s (f + 1) fst k lg ks vs = .error p := by
  rw [objF, if_neg h, if_neg (by rcases h2 with h2 | h2 <;> simp [h2]), ← h0, ht]
  simp only
  rw [if_neg (by omega), if_neg (by omega), hi]
theorem objF_next {α : Type} {item : Nat → Bool → Except Nat (α × Nat × Bool)} {s : ByteArray} {f : Nat} {fst : Bool} {k k0 : Nat} {lg : Bool} {ks : List ByteArray} {vs : List α} {t : List UInt8 × Nat × Int} {v : α} {k2 : Nat} {lg2 : Bool} (h : gb s k ≠ 125) (h2 : fst = true ∨ gb s k = 44) (h0 : k0 = skip s (if fst then k else k + 1)) (ht : textR s k0 = t) (hb : t.2.2 < 0) (hc : gb s (skip s t.2.1) = 58) (hi : item (skip s t.2.1 + 1) lg = .ok (v, k2, lg2)) :
    objF item s (f + 1) fst k lg ks vs = objF item s f false (skip s k2) lg2 (putK ks ⟨t.1.toArray⟩) (putP ks vs ⟨t.1.toArray⟩ v) := by
  rw [objF, if_neg h, if_neg (by rcases h2 with h2 | h2 <;> simp [h2]), ← h0, ht]
  simp only
  rw [if_neg (by omega), if_neg (by omega), hi]

end Go.Proofs.YtjaoocincdoaaaaGreatDoor
